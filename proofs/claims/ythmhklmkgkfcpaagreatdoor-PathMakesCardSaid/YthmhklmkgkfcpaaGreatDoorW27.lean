import Derived.Test.YthmhklmkgkfcpaaGreatDoorW25
import Derived.Test.YthmhklmkgkfcpaaGreatDoorW26
set_option linter.all false
set_option maxHeartbeats 8000000
set_option maxRecDepth 100000
namespace Go.Proofs.YthmhklmkgkfcpaaGreatDoor
open Go.Proofs.Tryz Go.RowKit
theorem dg:(prog.info? 47).map (·.size)=some 5:=by kernel_rfl
theorem iq {p o n m l:Option Addr}{f e d c b k j i h g:Nat}:∀ z∈[Value.slice p f k,.slice o e j,.slice n d i,.slice m c h,.slice l b g],z.oneCell'=true:=by
 intro z a;simp only[Ki,LC,or_false] at a;rcases a with rfl|rfl|rfl|rfl|rfl <;> rfl
theorem Hw (aa G F E:Value)(t:List Nod)(K:Nat)(i:Int)(seed secret info:List UInt8)(w:World)(B:NL w aa t)(H:aD t K)(A:Rd w G seed)(z:Rd w F secret)(J:Rd w E info)(k:el t i seed secret≠0):
  Calls prog 21 #[aa,.int .i64 i,G,F,E] w λe w'=>(∃ v,e=.returned (.tuple #[v,.int .i64 (el t i seed secret)])/\MV w' v ig)/\Kp w w':=by
 obtain⟨Q,P,O⟩:=H.small;have M:=Lib.hid (λW (R:Kp w W)=>sL aa t i W (B.kp R) (by omega));obtain⟨a,c,rfl,_,_⟩:=B.shape;obtain⟨Z,V,rfl,_,_⟩:=A.shape;obtain⟨Y,U,rfl,_,_⟩:=z.shape;obtain⟨X,S,T,rfl⟩:=az J;obtain⟨p,j⟩:∃ p,w.alloc (.cells #[.slice none 0 0,.slice none 0 0,.slice none 0 0,.slice none 0 0,.slice none 0 0] 47)=p:=⟨_,rfl⟩;have I:Bx p w.heap.size 47 #[.slice none 0 0,.slice none 0 0,.slice none 0 0,.slice none 0 0,.slice none 0 0]:=by rw[<-j];exact Bx.new w _ _
 have b:Hid (Kp w p):=by unfold Hid;rw[<-j];exact(Kp.refl _).alloc _
 have x:=Lib.hid I;have n:=Lib.hid j;have l:=Lib.hid (M.out p b.out);have g:el t i seed secret=if seed.length=32/\secret.length=32 then dM t i else 1:=rfl
 generalize t.length=N at *;clear B H I j M Q P O J;by_cases o:seed.length=32
 ·by_cases y:secret.length=32
  ·rw[if_pos ⟨o,y⟩] at g
   have m:¬bf t i:=λh=>k (by rw[g];unfold dM;rw[if_pos h])
   have u:el t i seed secret=11:=by rw[g];unfold dM;rw[if_neg m]
   rw[Jr m] at l;rw[u,o,y];clear g k m u A z o y;go_enter func21,ntmps21;go_wp2_with fail;rw[n.out];refine l.out.mono ?_;rintro _ _ ⟨rfl,rfl⟩;go_wp2_with(refine fe rfl rfl 47 (.tmp 10) (.tmp 44) rfl w.heap.size 47 _ #[.slice none 0 0,.slice none 0 0,.slice none 0 0,.slice none 0 0,.slice none 0 0] rfl rfl x.out rfl iq dg ?_;intro D f L d)
   have s:=d w b.out (Ja _);refine bodyPost_ret (eV rfl _ _ w.heap.size _ _ (0,0) _ _ rfl f underlying47 rfl dg rfl) rfl ?_;exact⟨⟨_,rfl,_,_,_,_,_,rfl,MIn.none _⟩,s⟩
  ·rw[if_neg λh=>y h.2] at g
   have C:((secret.length:Int)==32)=false:=Jd.2 (by omega);have r:((secret.length:Int) != 32)=true:=KX.2 (by omega);have q:¬(secret.length:Int)=32:=by omega
   rw[g,o];clear k g A z o l;go_enter func21,ntmps21;rw[<-n.out] at x b;go_wp2_with(refine fe rfl rfl 47 (.tmp 10) (.tmp 38) rfl w.heap.size 47 _ #[.slice none 0 0,.slice none 0 0,.slice none 0 0,.slice none 0 0,.slice none 0 0] rfl rfl x.out rfl iq dg ?_;intro D f L d)
   have s:=d w b.out (Ja _);refine bodyPost_ret (eV rfl _ _ w.heap.size _ _ (0,0) _ _ rfl f underlying47 rfl dg rfl) rfl ?_;exact⟨⟨_,rfl,_,_,_,_,_,rfl,MIn.none _⟩,s⟩
 ·rw[if_neg λh=>o h.1] at g
  have C:((seed.length:Int)==32)=false:=Jd.2 (by omega);have r:((seed.length:Int) != 32)=true:=KX.2 (by omega);have q:¬(seed.length:Int)=32:=by omega
  rw[g];clear k g A z l;go_enter func21,ntmps21;rw[<-n.out] at x b;go_wp2_with(refine fe rfl rfl 47 (.tmp 10) (.tmp 38) rfl w.heap.size 47 _ #[.slice none 0 0,.slice none 0 0,.slice none 0 0,.slice none 0 0,.slice none 0 0] rfl rfl x.out rfl iq dg ?_;intro D f L d)
  have s:=d w b.out (Ja _);refine bodyPost_ret (eV rfl _ _ w.heap.size _ _ (0,0) _ _ rfl f underlying47 rfl dg rfl) rfl ?_;exact⟨⟨_,rfl,_,_,_,_,_,rfl,MIn.none _⟩,s⟩
structure MkS (r:Nat)(w3 w:World)(ap:Option Addr)(np cp:Nat)(av:Option Addr)(nv cv:Nat)(xo xs:Value)(l:List St)(own:List Sd)(s:List UInt8):Prop where
 mk ::
 box:Bx w w3.heap.size 27 #[.slice ap np cp,.slice av nv cv]
 row:GZ bZ 74 (λg=>g=w3.heap.size\/g=r) w (w3.heap.size+1) (.slice av nv cv) l
 own:SZ bY (λg=>some g=(Value.slice av nv cv).ownBlock\/g=w3.heap.size\/g=r) w xo own
 sec:RZ (λg=>some g=(Value.slice av nv cv).ownBlock\/g=w3.heap.size\/g=r) w xs s
 kp:Kp w3 w
theorem Hx (aa v1 v2 v3:Value)(t:List Nod)(K i:Nat)(seed secret info:List UInt8)(w:World)(hu:NL w aa t)(hr:aD t K)(hT:bk t K)(h1:Rd w v1 seed)(h2:Rd w v2 secret)(h3:Rd w v3 info)(T:(ats t (2*i)).kind=1)
  (q1:seed.length=32) (q2:secret.length=32) (dK:info.length<=1400):
  Calls prog 21 #[aa,.int .i64 (i:Int),v1,v2,v3] w λe w'=>(∃ v,e=.returned (.tuple #[v,.int .i64 0])/\MV w' v ⟨ej t (i:Int) (aA t i K) (bG t K i seed secret info),cC [⟨2*(i:Int),seed⟩] secret (aA t i K),bG t K i seed secret info,fw secret (ixS t i K).length⟩)/\Kp w w':=by
 obtain⟨z1,z2,z3⟩:=hr.small;have A:=(hr.there_iff i).2 T;have dL:=aD.lt_of (t:=t) (x:=2*i) (by rw[T];decide);have hi:i<2 ^ K:=by omega
 have dH:=bP hr.le;have HF:=Lib.hid (λW (B:Kp w W)=>sL aa t (i:Int) W (hu.kp B) (by omega));rw[Jy A] at HF;have cn:=Lib.hid (λW (B:Kp w W)=>yv aa t K i W (hu.kp B) hr hi);have du:=Lib.hid (λW (v:Value) (l:List UInt8) (hv:Rd W v l)=>yU v l W hv);have bo:=Lib.hid (λW (v:Value) (s:ByteArray) (l:List UInt8) (hv:Rd W v l) (hs:s.size<=300) (hl:l.length<=2000)=>xm v s l W hv hs hl);have bt:=Lib.hid (λW (B:Kp w W) (lv x y:Value) (p:Pa) (hl:RN W lv (aA t i K)) (hp:PIn W x y p) h32 hs hs32=>Gr aa lv x y t K i p W (hu.kp B) hr hT T hl hp h32 hs hs32);have HU:=Lib.hid hu;have H1:=Lib.hid h1;have H2:=Lib.hid h2;have H3:=Lib.hid h3;obtain⟨aZ,ar⟩:=fY t i K;have dJ:=Js (kn t i K) hr.le;have aK:=Lib.hid (λa ha=>lQ (t:=t) (a:=a) hr hi ha);have bI:=Lib.hid (λk hk=>wS (t:=t) (secret:=secret) (info:=info) (who:=aU t i K) (k:=k) hk);have ck:=Lib.hid (λs n j l hj=>wU (t:=t) (secret:=secret) (info:=info) (s:=s) (n:=n) (j:=j) (l:=l) hj);have bp:=Lib.hid (λk hk=>DI (own:=[⟨2*(i:Int),seed⟩]) (s:=secret) (l:=aA t i K) (k:=k) hk);have bF:=Lib.hid (λk hk=>rX (who:=aU t i K) (M:=2048) (λa ha=>(aK.out a ha).1) k hk);have dm:nS (aU t i K) 0=0:=rfl;have au:=Lib.hid (λk hk=>rW (who:=aU t i K) (k:=k) hk);have b0:=Lib.hid (ko t K i seed secret info);have bJ:Hid (bG t K i seed secret info=⟨dE seed,makeS t secret info secret 0 (aU t i K)⟩):=by unfold Hid bG;rw[(fk q1).2]
 have cy:=Lib.hid (nH t secret info (aU t i K) secret 0);have cr:=Lib.hid (λk=>jo q2 k);have d6:Hid (aW secret 0=secret):=rfl;have de:Hid (secret.length=32):=q2;have bD:Hid (∀ k,aW secret (k+1)=br (aW secret k) eG):=λk=>rfl
 have dr:Hid (fw secret (ixS t i K).length=aW secret (if (ixS t i K).length=0 then 1 else (ixS t i K).length)):=rfl;have bh:Hid (∀ k,stS t secret info (aU t i K) k=⟨dE (br (aW secret k) dT),bM t secret info (aW secret k) (nS (aU t i K) k) ((aU t i K).getD k [])⟩):=λk=>rfl
 have ak:Hid (∀ k,k<=(aA t i K).length->(cC [⟨2*(i:Int),seed⟩] secret ((aA t i K).take k)).length<=100000):=λk hk=>by rw[wl,Jv];simp;omega
 have dl:Hid (cC [⟨2*(i:Int),seed⟩] secret ((aA t i K).take 0)=[⟨2*(i:Int),seed⟩]):=rfl;have bq:Hid (cC [⟨2*(i:Int),seed⟩] secret ((aA t i K).take (aA t i K).length)=cC [⟨2*(i:Int),seed⟩] secret (aA t i K)):=by unfold Hid;rw[JM]
 have i2:IntKind.i64.wrap (2*(i:Int))=2*(i:Int):=IW _ (by omega);generalize bG t K i seed secret info=MP at *;generalize makeS t secret info secret 0 (aU t i K)=MK at *;generalize fw secret (ixS t i K).length=LS at *;generalize cC [⟨2*(i:Int),seed⟩] secret (aA t i K)=OE at *;generalize c5:(λk=>cC [⟨2*(i:Int),seed⟩] secret ((aA t i K).take k))=ON at *;have bN:∀ k,cC [⟨2*(i:Int),seed⟩] secret ((aA t i K).take k)=ON k:=λk=>by rw[<-c5]
 simp only[bN] at bp ak dl bq;generalize stS t secret info (aU t i K)=eD at *;generalize nS (aU t i K)=F at *;generalize aW secret=SK at *;obtain⟨a,c,rfl,p1,s1⟩:=hu.shape;obtain⟨a1,c1,rfl,_,_⟩:=h1.shape;obtain⟨a2,c2,rfl,_,_⟩:=h2.shape;obtain⟨a3,n3,c3,rfl⟩:=az h3;obtain⟨N,hN⟩:∃ N,t.length=N:=⟨_,rfl⟩;have HN:=Lib.hid hN;generalize c4:aA t i K=ST at *;generalize c0:aU t i K=WH at *;generalize (ixS t i K).length=M at *;have bi:=Lib.hid aZ;have ai:=Lib.hid ar;rw[aZ] at bq ak bp;rw[ar] at cy bI bF aK au;rw[hN] at HF HU cn bt aK p1 z1 ⊢;rw[q1] at H1 ⊢;rw[q2] at H2 ⊢;clear hu hr hT h1 h2 h3 T q2 A dL hi dH c5 bN hN c4 c0 aZ ar z2 z3;go_enter func21,ntmps21;go_wp2_with fail;obtain⟨w1,bx⟩:∃ w1,w.alloc (.cells #[.slice none 0 0,.slice none 0 0,.slice none 0 0,.slice none 0 0,.slice none 0 0] 47)=w1:=⟨_,rfl⟩;have hb:Bx w1 w.heap.size 47 #[.slice none 0 0,.slice none 0 0,.slice none 0 0,.slice none 0 0,.slice none 0 0]:=by rw[<-bx];exact Bx.new w _ _
 have cT:Kp w w1:=by rw[<-bx];exact(Kp.refl _).alloc _
 have HB:=Lib.hid (Jb hb cT);rw[bx];clear hb cT bx;refine(HF.out w1 HB.out.2).mono ?_;rintro _ _ ⟨rfl,rfl⟩;go_wp2_with fail;refine(cn.out w1 HB.out.2).mono ?_;rintro _ w2 ⟨⟨xl,xw,rfl,r1,r2⟩,k2⟩;obtain⟨al,cl,rfl,p2,s2⟩:=r1.shape;obtain⟨aw,cw,rfl,aV,s3⟩:=SE.shape r2;rw[bi.out] at r1 p2 ⊢;rw[ai.out] at r2 aV ⊢;have R2:=Lib.hid (Jb r1 (Jb r2 k2));clear r1 r2 k2 HF cn;go_wp2_with fail;refine(du.out w2 _ _ (H1.out.kp (HB.out.2.trans R2.out.2.2))).mono ?_;rintro _ f ⟨⟨vp,rfl,r3,cE⟩,k3⟩;obtain⟨ap,np,cp,rfl⟩:=az r3;have R3:=Lib.hid (Jb r3 k3);have U:Hid (w.heap.size<w2.heap.size/\w2.heap.size<=f.heap.size):=⟨Jh (IX.1 HB.out.1).1 R2.out.2.2.size,k3.size⟩;have d9:=Lib.hid cE;clear r3 k3 cE;go_wp2_with fail;obtain⟨w5,aY⟩:∃ w5,(f.alloc (.cells #[.slice ap np cp,.slice none 0 0] 27)).alloc (.cells #[.int .i64 (2*(i:Int)),.slice a1 32 c1] 90)=w5:=⟨_,rfl⟩;have K3:=Lib.hid (R2.out.2.2.trans R3.out.2);have c6:=Lib.hid (HB.out.2.trans K3.out);have dp:Hid (MkS w.heap.size f w5 ap np cp none 0 0 (.slice (some ⟨f.heap.size+1,0,none⟩) 1 1) (.slice a2 32 c2) [] (ON 0) (SK 0)):=by
  unfold Hid;have hs:=H1.out.kp c6.out;have dG:=H2.out.kp c6.out;have cG:Kp f w5:=by rw[<-aY];exact((Kp.refl _).alloc _).alloc _
  refine⟨?_,GZ.nil _ _ _,?_,⟨by rw[d6.out];exact dG.kp cG,ks (w:=w) H2.out.inside λg d=>d.elim (λh=>by cases h) λh=>by have:=U.out;omega⟩,cG⟩
  ·rw[<-aY]
   exact(Bx.new f _ _).kp ((Kp.refl _).alloc _)
  ·rw[dl.out,<-aY]
   have h4:bY.R (λg=>some g=(Value.slice none 0 0).ownBlock\/g=f.heap.size\/g=w.heap.size) (f.alloc (.cells #[.slice ap np cp,.slice none 0 0] 27)) [.int .i64 (2*(i:Int)),.slice a1 32 c1] ⟨2*(i:Int),seed⟩:=
    ⟨_,rfl,hs.kp ((Kp.refl _).alloc _),ks (w:=w) H1.out.inside λg d=>d.elim (λh=>by cases h) λh=>by have:=U.out;omega⟩
   have h5:=SE.litZ 90 h4 (cs:=#[.int .i64 (2*(i:Int)),.slice a1 32 c1]) rfl;rw[Jn] at h5;exact⟨h5,λx n c e _ hk=>by
    simp only[Ji,JL] at e;obtain⟨rfl,_⟩:=e;rcases hk with hk|hk
    ·cases hk
    ·have h9:f.heap.size+1=f.heap.size\/f.heap.size+1=w.heap.size:=hk
     have:=U.out;omega⟩
 have eb:Hid (F 0=0):=dm;rw[aY];clear aY;go_loopw[16,17,18,19] (λdx dw b3 b2 wr=>∃ (k:Nat) (av:Option Addr) (nv cv:Nat),k<=M/\b2=.int .i64 (k:Int)/\b3=.int .i64 ((F k:Nat):Int)/\MkS w.heap.size f wr ap np cp av nv cv dx dw (MK.take k) (ON k) (SK k)) (λ_ _ _ b2 _=>(M - (intOf b2).toNat))
 case atStart=>exact⟨0,none,0,0,Jl _,rfl,by rw[eb.out];rfl,dp.out⟩
 case round=>
  obtain⟨k,av,nv,cv,hk,rfl,rfl,m⟩:=hrel;obtain⟨L,dD⟩:∃ x:World,x=wr:=⟨_,rfl⟩;subst dD;have u:=Lib.hid m;have ev:=m.box;have KK:=Lib.hid (K3.out.trans m.kp);have KW:=Lib.hid (HB.out.2.trans KK.out);clear m;by_cases Q:k<M
  ·have i1:IntKind.i64.wrap ((k:Int)+1)=(k:Int)+1:=IW _ (by omega)
   have i3:(k:Int)<(M:Int):=by omega
   have bf:=Lib.hid (aK.out k Q);have ec:=Lib.hid (bI.out k Q);have dk:=Lib.hid (bp.out k Q);have bH:=Lib.hid (bF.out k (Nat.le_of_lt Q));have cx:=Lib.hid (au.out k Q);have bj:=Lib.hid (cr.out k);have bS:=Lib.hid (bD.out k);have bQ:=Lib.hid (bh.out k);have d8:=Lib.hid (ak.out k (Nat.le_of_lt Q));have hx:=u.out.own.1;obtain⟨ao,no,co,rfl⟩:=SE.sl hx;obtain⟨aI,ax,aG,rfl⟩:=az u.out.sec.1;clear aK bI bp bF au cr bD bh ak hx;go_wp2_with fail;refine(bo.out L _ ⟨#[110,111,100,101]⟩ _ u.out.sec.1 (by decide) (by rw[bj.out];omega)).mono ?_;rintro _ wa ⟨⟨en,rfl,ra,na⟩,ka⟩;obtain⟨a7,aQ,a5,rfl⟩:=az ra;have RA:=Lib.hid (Jb ra (Jb na ka));clear ra na ka;go_wp2_with fail;refine(du.out wa _ _ RA.out.1).mono ?_;rintro _ P ⟨⟨ek,rfl,rb,nb⟩,kb⟩;obtain⟨aJ,ay,aH,rfl⟩:=az rb;have RB:=Lib.hid (Jb rb (Jb nb kb));have KB:=Lib.hid (RA.out.2.2.trans kb);clear rb nb kb;obtain⟨V,aX⟩:∃ V,P.alloc (.cells #[.slice aJ ay aH,.slice none 0 0] 74)=V:=⟨_,rfl⟩;have eg:Hid (Bx V P.heap.size 74 #[.slice aJ ay aH,.slice none 0 0]):=by unfold Hid;rw[<-aX];exact Bx.new P _ _
   have aM:Hid (V.heap.size=P.heap.size+1):=by unfold Hid;rw[<-aX];simp
   have KC:Hid (Kp P V):=by unfold Hid;rw[<-aX];exact(Kp.refl _).alloc _
   have db:=Lib.hid aX;clear aX;go_wp2_with fail;rw[db.out];clear db;obtain⟨H,a4⟩:∃ l,WH.getD k []=l:=⟨_,rfl⟩;have c8:=Lib.hid a4;rw[a4] at bf cx bQ;obtain⟨J,hJ⟩:∃ J,H.length=J:=⟨_,rfl⟩;have HJ:=Lib.hid hJ;rw[hJ] at bf cx;clear a4 hJ;go_loopw[18,22] (λb3 b1 wr=>∃ (j:Nat) (af:Option Addr) (nf cf:Nat),j<=J/\b1=.int .i64 (j:Int)/\b3=.int .i64 ((F k+j:Nat):Int)/\Bx wr P.heap.size 74 #[.slice aJ ay aH,.slice af nf cf]/\GZ da 92 (λg=>g<V.heap.size) wr V.heap.size (.slice af nf cf) ((bM t secret info (SK k) (F k) H).take j)/\Kp P wr) (λ_ b1 _=>(J - (intOf b1).toNat))
   case atStart=>exact⟨0,none,0,0,Jl _,rfl,rfl,eg.out,GZ.nil _ _ _,KC.out⟩
   case round=>
    obtain⟨j,af,nf,cf,hj,rfl,rfl,cW,aC,cc⟩:=hrel;have HI:=Lib.hid (Jb cW (Jb aC cc));have KR:=Lib.hid ((R3.out.2.trans u.out.kp).trans (KB.out.trans cc));clear cW aC cc;have dM:=aL.ns (i:=k) (aL.kp R2.out.2.1 KR.out) (by rw[ai.out];exact Q);obtain⟨gw,ow,ew,qw,e1,_,d0,bv⟩:=dM;rw[ai.out] at e1;simp only[Ji] at e1;obtain⟨rfl,_,rfl⟩:=e1;have dI:ii WH k=H:=c8.out;rw[dI] at bv;obtain⟨aq,cq,rfl,t1,t2⟩:=bv.shape;rw[HJ.out] at bv t1 d0;have cj:=Lib.hid ((HB.out.2.trans R2.out.2.2).trans KR.out);by_cases bz:j<J
    ·obtain⟨y,b7,cH,_⟩:=bf.out.2 j bz
     have dO:=bf.out.1;have dN:=bH.out;obtain⟨gq,oq,rfl,_,cU⟩:=bv.at j bz;have d1:=cU j bz;rw[b7] at d1;obtain⟨b,dz,rfl,_,hc⟩:=HU.out.at y cH;obtain⟨pp,uu,hh,hn⟩:=hc y cH;have i4:IntKind.i64.wrap ((j:Int)+1)=(j:Int)+1:=IW _ (by omega);have i5:(j:Int)<(J:Int):=by omega
     have i6:(y:Int)<(N:Int):=by omega
     have i7:IntKind.i64.wrap (((F k+j:Nat):Int)+1)=((F k+(j+1):Nat):Int):=by rw[IW _ (by have:=bH.out;omega)];omega
     have bs:Hid (∀ W,Calls prog 62 #[.int .i64 ((F k+j:Nat):Int),.int .i64 4] W λe w'=>∃ v,e=.returned (.tuple #[v,.int .i64 (gV ((F k+j:Nat):Int) 4)])/\Ow 5 w' W.heap.size v (be 4 (F k+j))/\Kp W w'):=λW=>by
      have:=pc ((F k+j:Nat):Int) 4 W (by have:=bH.out;omega);rwa [wW (by have:=bH.out;omega)] at this
     have c7:Hid ((bM t secret info (SK k) (F k) H).take (j+1)=(bM t secret info (SK k) (F k) H).take j++[⟨fI (ats t y).pub (df secret (F k+j)),fJ (ats t y).pub (df secret (F k+j)) info (SK k)⟩]):=by
      have:=ck.out (SK k) (F k) j H (by rw[HJ.out];exact bz);unfold seS at this;rw[b7,Jm] at this;exact this
     have dh:Hid (∀ W,Kp w W->W.cell? ⟨b,dz+y*5+2,none⟩=some pp/\Rd W pp (ats t y).pub):=λW B=>⟨(hn.kp B).pubC,hn.2.pub.kp B⟩
     have HD:Hid (∀ W,Kp wr W->W.cell? ⟨gw,ow+k,none⟩=some (.slice (some ⟨gq,oq,none⟩) J cq)/\W.cell? ⟨gq,oq+j,none⟩=some (.int .i64 (y:Int))):=λW B=>⟨B.cell d0,B.cell d1⟩
     have dX:Hid (((bM t secret info (SK k) (F k) H).take j).length+1<=1000000):=by unfold Hid;rw[Jv];have:=bf.out.1;omega
     have cL:=hn.2.pub;obtain⟨eA,eo,ex,rfl⟩:=az cL;obtain⟨NJ,cg⟩:∃ n,F k+j=n:=⟨_,rfl⟩;have eF:=Lib.hid cg;rw[cg] at bs c7 i7 ⊢;clear cg;generalize gV (NJ:Int) 4=NE at *;generalize dR:(bM t secret info (SK k) (F k) H).take j=TK at *;generalize (ats t y).pub=bb at *;clear cU hc hn cL dR b7 dO dN;go_wp2_with fail;refine(bs.out wr).mono ?_;rintro _ we ⟨em,rfl,oe,ke⟩;obtain⟨eC,er,ez,rfl⟩:=az oe.rd;have RE:=Lib.hid (Jb oe.rd ke);clear oe ke bs;go_wp2_with fail;refine(nR (.slice a2 32 c2) ⟨#[111,110,99,101]⟩ _ secret (be 4 NJ) 32 we (H2.out.kp (cj.out.trans RE.out.2)) RE.out.1 (by decide) (by rw[bl];omega) (by rw[(de.out)];omega)).mono ?_;rintro _ wf ⟨⟨el,rfl,rf⟩,kf⟩;obtain⟨eB,ep,ey,rfl⟩:=az rf;have RF:=Lib.hid (Jb rf (RE.out.2.trans kf));clear rf kf;obtain⟨d2,d3⟩:=HD.out wf RF.out.2;obtain⟨d4,cD⟩:=dh.out wf (cj.out.trans RF.out.2);go_wp2_with fail;refine(Hm _ _ _ _ bb (bU secret vN (be 4 NJ) 32) info (SK k) wf cD RF.out.1 (H3.out.kp (cj.out.trans RF.out.2)) ((u.out.sec.1.kp KB.out).kp (HI.out.2.2.trans RF.out.2)) dK (by rw[bj.out];omega)).mono ?_;rintro _ wg ⟨⟨vh,vb,rfl,rh,bw,nh,b5⟩,kg⟩;obtain⟨ah,dB,ch,rfl⟩:=az rh;obtain⟨ab,dC,cb,rfl⟩:=az bw;have KG:=Lib.hid (RF.out.2.trans kg);have ce:=HI.out.1.kp KG.out;have e5:=ce.cell 1;simp only[Jj,Jg,Jk] at e5;have RG:=Lib.hid (Jb rh (Jb bw (Jb nh b5)));have bg:Hid (V.heap.size<=wf.heap.size/\wr.heap.size<=wf.heap.size):=⟨by have h1:=HI.out.2.2.size;have h2:=RF.out.2.size;have:=HI.out.1;have h3:P.heap.size<wr.heap.size:=(IX.1 this).1;have:=aM.out;omega,RF.out.2.size⟩;have dq:Hid (∀ g,(Value.slice af nf cf).ownBlock=some g->g<wr.heap.size):=λg d=>(HI.out.2.1.lt g d).2
     have bL:Hid (da.R (λg=>some g=(Value.slice af nf cf).ownBlock\/g<V.heap.size) wg [.slice ah dB ch,.slice ab dC cb] ⟨fI bb (df secret NJ),fJ bb (df secret NJ) info (SK k)⟩):=
      ⟨_,_,rfl,⟨rh,cO (C:=wf.heap.size) nh λg d=>d.elim (λh=>by have:=dq.out g h.symm;have:=bg.out;omega) λh=>by have:=bg.out;omega⟩,
       ⟨bw,cO (C:=wf.heap.size) b5 λg d=>d.elim (λh=>by have:=dq.out g h.symm;have:=bg.out;omega) λh=>by have:=bg.out;omega⟩⟩
     have aO:=Lib.hid (HI.out.2.1.kp KG.out);have ef:=Lib.hid ce;have cB:Hid (V.heap.size<=wg.heap.size):=by have:=bg.out;have:=kg.size;unfold Hid;omega
     clear rh bw nh b5 kg ce d2 d3 d4 cD;go_wp2_with(first
      | (at_builtin;refine fq (S:=da) (Z:=λg=>g<V.heap.size) (o:=⟨some 116,_,_,_,_,_⟩) seK rfl _ _ rfl V.heap.size _ TK rfl (aO.out.kp ((Kp.refl _).alloc _)) _ [_] rfl (SE.litZ (S:=da) 92 bL.out rfl) (by exact dX.out) (Js cB.out (by simp)) ?_;intro vF wh oh gh qh;obtain⟨aF,nF,cF,rfl⟩:=SE.sl oh.gl;have cY:Bx wh P.heap.size 74 #[.slice aJ ay aH,.slice af nf cf]:=(ef.out.kp ((Kp.refl _).alloc _)).grown gh (λe=>by have:=(aO.out.lt _ e.symm).1;have:=aM.out;omega);have KH:Hid (Kp P wh):=Kp.grown ((HI.out.2.2.trans KG.out).alloc _) gh (λg d=>by have:=(aO.out.lt g d).1;have:=aM.out;omega);have OH:=Lib.hid oh;have ee:=Lib.hid cY;have bC:Hid (wh.there P.heap.size 1 1):=λq hq=>by have:=cY.there (1+q) (by simp;omega);rwa [JS] at this)
      | (refine kt rfl rfl 72 (.tmp 117) (.tmp 116) rfl P.heap.size 1 (.slice aF nF cF) rfl rfl rfl bC.out (by kernel_rfl) ?_;intro wi ae))
     subst ae;obtain⟨wi,ae⟩:∃ x,wh.setCells P.heap.size 1 [.slice aF nF cF]=x:=⟨_,rfl⟩;have eE:=Lib.hid ae;have cX:Bx wi P.heap.size 74 #[.slice aJ ay aH,.slice aF nF cF]:=by rw[<-ae];exact ee.out.set 1 (.slice aF nF cF)
     have aE:wh.grownBy wi (some P.heap.size):=by rw[<-ae];exact fF wh P.heap.size 0 [.slice aF nF cF] 1
     have cR:Kp P wi:=by rw[<-ae];exact KH.out.setCells (Ja _) _ _
     have ca:GZ da 92 (λg=>g<V.heap.size) wi V.heap.size (.slice aF nF cF) (TK++[⟨fI bb (df secret NJ),fJ bb (df secret NJ) info (SK k)⟩]):=
      OH.out.step (Y:=λg=>g=P.heap.size) ⟨aE.os,aE.tape,aE.output,aE.size,λq hq hn=>aE.block q hq λe=>hn (by cases e;rfl)⟩ (λg d=>.inl (by have:=aM.out;omega)) (λg d e=>by have:=(OH.out.lt g d).1;have:=aM.out;omega)
     rw[<-c7.out] at ca;have cz:=Lib.hid (Jb cX (Jb ca cR));rw[ae];clear ae cX aE cR ca;go_wp2_with fail;go_roundw
     case rel=>exact⟨j+1,aF,nF,cF,by omega,by go_num,congrArg (Value.int IntKind.i64) (by omega),cz.out.1,cz.out.2.1,cz.out.2.2⟩
     case measure=>simp[intOf];omega
    ·obtain rfl:j=J:=by omega
     have et:¬(j:Int)<(j:Int):=by omega
     have cN:F k+j=F (k+1):=by rw[cx.out]
     have ea:Hid ((F k+j:Nat)=F (k+1)):=cN;have dW:Hid ((bM t secret info (SK k) (F k) H).take j=bM t secret info (SK k) (F k) H):=by unfold Hid;rw[<-HJ.out,<-lJ t secret info (SK k) H (F k),JM]
     have aC:=HI.out.2.1;rw[dW.out] at aC;have aO:=Lib.hid aC;have KD:=Lib.hid (KB.out.trans HI.out.2.2);have cu:=Lib.hid (u.out.box.kp KD.out);have e5:=cu.out.cell 1;have e6:=HI.out.1.cell 0;have e7:=HI.out.1.cell 1;simp only[Jj,Jg,Jk] at e5 e6 e7;have aN:=Lib.hid (u.out.row.kp KD.out);have bm:Hid (f.heap.size<L.heap.size/\w.heap.size<f.heap.size):=⟨(IX.1 u.out.box).1,by have:=U.out;omega⟩;have bB:Hid (∀ g,(Value.slice av nv cv).ownBlock=some g->g<L.heap.size):=λg d=>(u.out.row.lt g d).2
     have bE:Hid (L.heap.size<=wa.heap.size/\wa.heap.size<=P.heap.size/\P.heap.size<V.heap.size/\P.heap.size<=wr.heap.size):=⟨RA.out.2.2.size,RB.out.2.2.size,by rw[aM.out];omega,HI.out.2.2.size⟩;have bL:Hid (bZ.R (λg=>some g=(Value.slice av nv cv).ownBlock\/g=f.heap.size\/g=w.heap.size) wr [.slice aJ ay aH,.slice af nf cf] ⟨dE (br (SK k) dT),bM t secret info (SK k) (F k) H⟩):=by
      refine⟨_,_,rfl,⟨RB.out.1.kp HI.out.2.2,cO (C:=wa.heap.size) RB.out.2.1 λg d=>?_⟩,aO.out.se.mono λg d=>?_,cO (C:=V.heap.size) (λg d=>(aO.out.lt g d).1) λg d=>?_⟩
      ·have:=bE.out;have:=bm.out;rcases d with h|h
       ·have:=bB.out g h.symm;omega
       ·omega
      ·have:=bE.out;have:=bm.out;show g<V.heap.size;rcases d with h|h
       ·have:=bB.out g h.symm;omega
       ·omega
      ·have:=bE.out;have:=bm.out;rcases d with h|h
       ·have:=bB.out g h.symm;omega
       ·omega
     have dn:Hid ((MK.take k).length+1<=1000000):=by unfold Hid;rw[Jv];omega
     have cB:Hid (f.heap.size+1<=wr.heap.size):=by have:=bE.out;have:=bm.out;unfold Hid;omega
     have bV:=Lib.hid (u.out.own.kp KD.out);have bT:=Lib.hid (u.out.sec.kp KD.out);have dd:=Lib.hid bQ.out;have bO:Hid (Rd wr (.slice a7 aQ a5) (br (SK k) dT)/\ba L.heap.size (.slice a7 aQ a5)):=⟨RA.out.1.kp (RB.out.2.2.trans HI.out.2.2),RA.out.2.1⟩;have ei:(SK (k+1))=br (SK k) eG:=bS.out;obtain⟨gl,ol,dQ,_,cV⟩:=(R2.out.1.kp R3.out.2).at k Q;have a0:=cV k Q;have b9:=dk.out;obtain⟨X,hX⟩:∃ x,ST.getD k 0=x:=⟨_,rfl⟩;rw[hX] at a0 b9;have dj:=Lib.hid b9;have dv:Hid (∀ W,Kp f W->W.cell? ⟨gl,ol+k,none⟩=some (.int .i64 (X:Int))):=λW B=>B.cell a0
     subst dQ;clear cV a0 hX b9 dk;have dV:=Lib.hid (u.out.kp.trans KD.out);have dc:Hid (RZ (λg=>some g=(Value.slice av nv cv).ownBlock\/g=f.heap.size\/g=w.heap.size) wr (.slice a7 aQ a5) (br (SK k) dT)):=⟨bO.out.1,cO (C:=L.heap.size) bO.out.2 λg d=>d.elim (λh=>bB.out g h.symm) λh=>by have:=bm.out;omega⟩;clear aC cN ck;go_wp2_with(first
      | (at_builtin;refine fq (S:=bZ) (Z:=λg=>g=f.heap.size\/g=w.heap.size) (o:=⟨some 124,_,_,_,_,_⟩) stK rfl _ _ rfl (f.heap.size+1) _ (MK.take k) rfl (aN.out.kp ((Kp.refl _).alloc _)) _ [_] rfl (SE.litZ (S:=bZ) 74 bL.out rfl) (by exact dn.out) (Js cB.out (by simp)) ?_;intro vS ws os gs qs;obtain⟨aS,z,cS,rfl⟩:=SE.sl os.gl;have cA:Hid (Bx ws f.heap.size 27 #[.slice ap np cp,.slice av nv cv]):=(cu.out.kp ((Kp.refl _).alloc _)).grown gs (λe=>by have:=(aN.out.lt _ e.symm).1;omega);have bC:Hid (ws.there f.heap.size 1 1):=λq hq=>by { have:=cA.out.there (1+q) (by simp;omega);rwa [JS] at this };have OS:=Lib.hid os;have GS:=Lib.hid gs;have QS:=Lib.hid qs;have KS:Hid (Kp f ws):=Kp.grown (dV.out.alloc _) gs (λg d=>by have:=(aN.out.lt g d).1;omega))
      | (refine kt rfl rfl 25 (.tmp 125) (.tmp 124) rfl f.heap.size 1 (.slice aS z cS) rfl rfl rfl bC.out (by kernel_rfl) ?_;intro wt an;obtain rfl:wt=ws.setCells f.heap.size 1 [.slice aS z cS]:=an;have c9:=dv.out _ (KS.out.setCells (Ja _) [.slice aS z cS] 1)))
     obtain⟨wt,an⟩:∃ x,ws.setCells f.heap.size 1 [.slice aS z cS]=x:=⟨_,rfl⟩;have G:ws.grownBy wt (some f.heap.size):=by rw[<-an];exact fF ws f.heap.size 0 [.slice aS z cS] 1
     have cd:Bx wt f.heap.size 27 #[.slice ap np cp,.slice aS z cS]:=by rw[<-an];exact cA.out.set 1 (.slice aS z cS)
     have cQ:Kp f wt:=by rw[<-an];exact KS.out.setCells (Ja _) _ _
     have cZ:am (λg=>g=f.heap.size) ws wt:=⟨G.os,G.tape,G.output,G.size,λq hq hn=>G.block q hq λe=>hn (by cases e;rfl)⟩;have bA:am (λg=>some g=(Value.slice aS z cS).ownBlock\/g=f.heap.size\/g=w.heap.size) ws wt:=⟨G.os,G.tape,G.output,G.size,λq hq hn=>G.block q hq λe=>hn (.inr (.inl (by cases e;rfl)))⟩;have cK:GZ bZ 74 (λg=>g=f.heap.size\/g=w.heap.size) wt (f.heap.size+1) (.slice aS z cS) (MK.take (k+1)):=by
      rw[ec.out,dd.out];exact OS.out.step (Y:=λg=>g=f.heap.size) cZ (λg d=>.inl (.inl d)) (λg d e=>by have:=(OS.out.lt g d).1;omega)
     have cM:SZ bY (λg=>some g=(Value.slice aS z cS).ownBlock\/g=f.heap.size\/g=w.heap.size) wt (.slice ao no co) (ON k):=(SZ.moved (bV.out.kp ((Kp.refl _).alloc _)) GS.out QS.out).step bA;have ag:RZ (λg=>some g=(Value.slice aS z cS).ownBlock\/g=f.heap.size\/g=w.heap.size) wt (.slice aI ax aG) (SK k):=(RZ.moved (bT.out.kp ((Kp.refl _).alloc _)) GS.out QS.out).step bA;have cI:RZ (λg=>some g=(Value.slice aS z cS).ownBlock\/g=f.heap.size\/g=w.heap.size) wt (.slice a7 aQ a5) (br (SK k) dT):=(RZ.moved (dc.out.kp ((Kp.refl _).alloc _)) GS.out QS.out).step bA;have b6:∀ g,(some g=(Value.slice aS z cS).ownBlock\/g=f.heap.size\/g=w.heap.size)->g<wt.heap.size:=λg d=>by
      have h1:=G.size;rcases d with h|h
      ·have:=(OS.out.lt g h.symm).2;omega
      ·have h3:f.heap.size<wt.heap.size:=(IX.1 cd).1
       have:=U.out;omega
     have bd:=Lib.hid (Jb cd (Jb cQ (Jb cK (Jb ag b6))));have bn:=Lib.hid (Gc (λg=>some g=(Value.slice aS z cS).ownBlock\/g=f.heap.size\/g=w.heap.size) (.slice ao no co) (.slice a7 aQ a5) (ON k) ⟨(X:Int),br (SK k) dT⟩ wt cM cI b6 d8.out);rw[<-dj.out] at bn;rw[an];clear an G cd cQ cZ bA cK cM ag cI b6 c9 cA bC OS GS QS KS aN cu bV bT dc bL dv;refine bn.out.mono ?_;rintro _ wu ⟨⟨xo,rfl,b8⟩,ku⟩;obtain⟨dU,dA,dS,rfl⟩:=SE.sl b8.1;have dZ:=Lib.hid b8;have KU:=Lib.hid ku;clear b8 ku bn;go_wp2_with fail;refine(bo.out wu _ ⟨#[112,97,116,104]⟩ _ (bd.out.2.2.2.1.1.kp KU.out) (by decide) (by rw[bj.out];omega)).mono ?_;rintro _ wv ⟨⟨dy,rfl,rv,ad⟩,kv⟩;obtain⟨a8,aR,a6,rfl⟩:=az rv;have ed:Hid (MkS w.heap.size f wv ap np cp aS z cS (.slice dU dA dS) (.slice a8 aR a6) (MK.take (k+1)) (ON (k+1)) (SK (k+1))):=
      ⟨bd.out.1.kp (KU.out.trans kv),bd.out.2.2.1.kp (KU.out.trans kv),dZ.out.kp kv,⟨by rw[bS.out];exact rv,cO (C:=wu.heap.size) ad λg d=>Jh (bd.out.2.2.2.2 g d) KU.out.size⟩,bd.out.2.1.trans (KU.out.trans kv)⟩
     clear rv ad kv;go_wp2_with fail;go_roundw
     case rel=>exact⟨k+1,aS,z,cS,by omega,by go_num,congrArg (Value.int IntKind.i64) (by have:=ea.out;omega),ed.out⟩
     case measure=>simp[intOf];omega
  ·obtain rfl:k=M:=by omega
   have es:¬(k:Int)<(k:Int):=by omega
   have dF:MK.take k=MK:=by rw[<-cy.out,JM]
   have m:=u.out;rw[dF] at m;have di:Hid (∀ W,Kp L W->PIn W (.slice ap np cp) (.slice av nv cv) MP):=λW B=>by
    rw[bJ.out];exact⟨R3.out.1.kp (u.out.kp.trans B),aL.kp m.row.gl B⟩
   have bK:=b0.out;obtain⟨ao,no,co,rfl⟩:=SE.sl m.own.1;have d7:Hid (∀ W,Kp L W->SL W (.slice ao no co) OE):=λW B=>by
    have h1:SL L (.slice ao no co) (ON k):=m.own.1.mono (λ_ h=>h.elim);rw[bq.out] at h1;exact aL.kp h1 B
   obtain⟨aI,ax,aG,rfl⟩:=az m.sec.1;have dY:=Lib.hid m.sec.1;have ds:Hid (∀ W,Kp L W->Calls prog 66 #[.slice a N c,.int .i64 (i:Int),.slice al k cl,.agg #[.slice ap np cp,.slice av nv cv]] W λe w'=>(∃ r,e=.returned r/\NL w' r (ej t (i:Int) ST MP))/\Kp W w'):=λW B=>
    bt.out W (KW.out.trans B) _ _ _ MP (R2.out.1.kp ((R3.out.2.trans u.out.kp).trans B)) (di.out W B) bK.2.1 (by rw[bK.1,ai.out,bi.out]) λa ha=>(bK.2.2 a (by rw[ai.out];rw[bi.out] at ha;exact ha)).2
   have D:Hid (∀ W,Kp L W->Bx W w.heap.size 47 #[.slice none 0 0,.slice none 0 0,.slice none 0 0,.slice none 0 0,.slice none 0 0]):=λW B=>HB.out.1.kp (KK.out.trans B)
   have aj:Hid (∀ W,Kp L W->Bx W f.heap.size 27 #[.slice ap np cp,.slice av nv cv]):=λW B=>m.box.kp B
   have bW:Hid (LS=SK (if k=0 then 1 else k)):=dr.out;have bX:Hid (∀ W Wz (rt b4:Value),Kp L W->NL W rt (ej t (i:Int) ST MP)->am (λg=>g=w.heap.size) W Wz->RZ (λg=>g=w.heap.size) W b4 LS->MIn Wz rt (.slice ao no co) (.slice ap np cp) (.slice av nv cv) b4 ⟨ej t (i:Int) ST MP,OE,MP,LS⟩):=λW Wz rt b4 B hn ag cJ=>by
    refine⟨NL.sly hn (sM (D.out W B)) ag,?_,⟨?_,?_⟩,(cJ.step ag).1⟩
    ·have h1:=(m.own.kp B).step (ag.wide λg d=>.inr (.inr d))
     rw[bq.out] at h1;exact h1.1.mono λ_ h=>h.elim
    ·rw[bJ.out]
     have h1:RZ (λg=>g=w.heap.size) W (.slice ap np cp) (dE seed):=⟨R3.out.1.kp (u.out.kp.trans B),cO (C:=w2.heap.size) d9.out λg d=>by have:=U.out;omega⟩;exact(h1.step ag).1
    ·rw[bJ.out]
     exact((m.row.kp B).step (Y:=λg=>g=w.heap.size) ag (λg d=>.inl (.inr d)) (λg d e=>by have:=(m.row.lt g d).1;have:=U.out;omega)).gl
   have aN:Hid (w.heap.size<L.heap.size):=Jh (Jh U.out.1 U.out.2) u.out.kp.size;have bR:Hid (RZ (λg=>g=w.heap.size) L (.slice aI ax aG) (SK k)):=⟨m.sec.1,m.sec.2.mono λg d=>.inr (.inr d)⟩;have bj:=Lib.hid (cr.out k);have d5:=Lib.hid (bD.out 0);clear bK u bt b0 bJ bq cy bI aK bF au bD bh ak ck bp m dp dr dY di d7;by_cases aB:k=0
   ·have dP:((k:Int)==0)=true:=by rw[aB];rfl
    have cP:Hid (LS=br (SK k) eG):=by unfold Hid;rw[bW.out,if_pos aB,aB];exact d5.out
    clear aB;go_wp2_with fail;refine(bo.out L _ ⟨#[112,97,116,104]⟩ _ bR.out.1 (by decide) (by rw[bj.out];omega)).mono ?_;rintro _ wv ⟨⟨dy,rfl,rv,ad⟩,kv⟩;obtain⟨a8,aR,a6,rfl⟩:=az rv;have cm:Hid (RZ (λg=>g=w.heap.size) wv (.slice a8 aR a6) LS):=⟨by rw[cP.out];exact rv,cO (C:=L.heap.size) ad λg d=>by have:=aN.out;omega⟩;have KV:=Lib.hid kv;have e5:=(aj.out wv kv).cell 0;have e6:=(aj.out wv kv).cell 1;simp only[Jj,Jg,Jk] at e5 e6;clear rv ad kv cP;go_wp2_with fail;go_region_with (first
     | (go_at_call 66;refine(ds.out _ (by first|exact KV.out|exact KV.out.drew)).mono ?_;rintro _ E ⟨⟨r9,rfl,n9⟩,k9⟩;have I:Hid (Kp L E):=KV.out.drew.trans k9;have ci:Hid (Kp wv E):=(Kp.refl _).drew.trans k9;obtain⟨a9,aP,c9,rfl⟩:=n9.sl;have N9:=Lib.hid n9;have e7:=(aj.out E I.out).cell 0;have e8:=(aj.out E I.out).cell 1;have A:=(D.out E I.out).there;have j0:=(D.out E I.out).cell 0;have j1:=(D.out E I.out).cell 1;have j2:=(D.out E I.out).cell 2;have j3:=(D.out E I.out).cell 3;have j4:=(D.out E I.out).cell 4;have f0:=(A 0 (by decide)).2;have f1:=(A 1 (by decide)).2;have f2:=(A 2 (by decide)).2;have f3:=(A 3 (by decide)).2;have f4:=(A 4 (by decide)).2;clear A;rw[JS] at f0 f1 f2 f3 f4;simp only[Jj,Jg,Jk] at e7 e8 j0 j1 j2 j3 j4))
    all_goals (
     clear e5 e6 e7 e8 j0 j1 j2 j3 j4 f0 f1 f2 f3 f4 n9 k9;have O:=pX (D.out E I.out) (.slice a9 aP c9) (.slice ao no co) (.slice ap np cp) (.slice av nv cv) (.slice a8 aR a6);obtain⟨wz,aT⟩:∃ x,((((E.setCell ⟨w.heap.size,0,none⟩ (.slice a9 aP c9)).setCell ⟨w.heap.size,1,none⟩ (.slice ao no co)).setCell ⟨w.heap.size,2,none⟩ (.slice ap np cp)).setCell ⟨w.heap.size,3,none⟩ (.slice av nv cv)).setCell ⟨w.heap.size,4,none⟩ (.slice a8 aR a6)=x:=⟨_,rfl⟩;rw[aT] at O ⊢;have ct:=Lib.hid O;have bu:=Lib.hid (bX.out E wz _ _ I.out N9.out O.2.1 (cm.out.kp ci.out));have bc:Hid (Kp w wz):=O.2.2 w (KW.out.trans I.out) (Ja _);clear O aT;go_wp2_with fail;refine bodyPost_ret (eV rfl _ _ w.heap.size _ _ (0,0) _ _ rfl ct.out.1 underlying47 rfl dg rfl) rfl ?_;exact⟨⟨_,rfl,_,_,_,_,_,rfl,bu.out⟩,bc.out⟩)
   ·have dP:((k:Int)==0)=false:=Jd.2 (by omega)
    have eh:¬(k:Int)=0:=by omega
    have cm:Hid (RZ (λg=>g=w.heap.size) L (.slice aI ax aG) LS):=by unfold Hid;rw[bW.out,if_neg aB];exact bR.out
    have e5:=(aj.out L (Kp.refl _)).cell 0;have e6:=(aj.out L (Kp.refl _)).cell 1;simp only[Jj,Jg,Jk] at e5 e6;clear aB;go_wp2_with fail;go_region_with (first
     | (go_at_call 66;refine(ds.out _ (by first|exact Kp.refl _|exact(Kp.refl _).drew)).mono ?_;rintro _ E ⟨⟨r9,rfl,n9⟩,k9⟩;have I:Hid (Kp L E):=(Kp.refl _).drew.trans k9;have ci:Hid (Kp L E):=I;obtain⟨a9,aP,c9,rfl⟩:=n9.sl;have N9:=Lib.hid n9;have e7:=(aj.out E I.out).cell 0;have e8:=(aj.out E I.out).cell 1;have A:=(D.out E I.out).there;have j0:=(D.out E I.out).cell 0;have j1:=(D.out E I.out).cell 1;have j2:=(D.out E I.out).cell 2;have j3:=(D.out E I.out).cell 3;have j4:=(D.out E I.out).cell 4;have f0:=(A 0 (by decide)).2;have f1:=(A 1 (by decide)).2;have f2:=(A 2 (by decide)).2;have f3:=(A 3 (by decide)).2;have f4:=(A 4 (by decide)).2;clear A;rw[JS] at f0 f1 f2 f3 f4;simp only[Jj,Jg,Jk] at e7 e8 j0 j1 j2 j3 j4))
    all_goals (
     clear e5 e6 e7 e8 j0 j1 j2 j3 j4 f0 f1 f2 f3 f4 n9 k9;have O:=pX (D.out E I.out) (.slice a9 aP c9) (.slice ao no co) (.slice ap np cp) (.slice av nv cv) (.slice aI ax aG);obtain⟨wz,aT⟩:∃ x,((((E.setCell ⟨w.heap.size,0,none⟩ (.slice a9 aP c9)).setCell ⟨w.heap.size,1,none⟩ (.slice ao no co)).setCell ⟨w.heap.size,2,none⟩ (.slice ap np cp)).setCell ⟨w.heap.size,3,none⟩ (.slice av nv cv)).setCell ⟨w.heap.size,4,none⟩ (.slice aI ax aG)=x:=⟨_,rfl⟩;rw[aT] at O ⊢;have ct:=Lib.hid O;have bu:=Lib.hid (bX.out E wz _ _ I.out N9.out O.2.1 (cm.out.kp ci.out));have bc:Hid (Kp w wz):=O.2.2 w (KW.out.trans I.out) (Ja _);clear O aT;go_wp2_with fail;refine bodyPost_ret (eV rfl _ _ w.heap.size _ _ (0,0) _ _ rfl ct.out.1 underlying47 rfl dg rfl) rfl ?_;exact⟨⟨_,rfl,_,_,_,_,_,rfl,bu.out⟩,bc.out⟩)

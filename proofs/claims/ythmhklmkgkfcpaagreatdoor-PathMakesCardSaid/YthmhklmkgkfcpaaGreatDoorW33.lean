import Derived.Test.YthmhklmkgkfcpaaGreatDoorW32
set_option linter.all false
set_option maxHeartbeats 8000000
set_option maxRecDepth 100000
namespace Go.Proofs.YthmhklmkgkfcpaaGreatDoor
open Go.Proofs.Tryz Go.RowKit
variable {t:List Nod}
section
open Go.Maps
theorem aD.pub32 {K:Nat}(h:aD t K){x:Nat}(a:(ats t x).kind≠0):(ats t x).pub.length=32:=by
 rcases h.okA x with e|⟨_,b,_⟩
 ·rw[e] at a;exact absurd rfl a
 ·exact b.2.2
theorem dV.over {w w':World}{gc a n:Nat}{s:List UInt8}{Y:Nat->Prop}(h:dV w gc a s n)(b:am Y w w')(j:∀ g,Y g->cj w g)(i:¬Y gc)(f:¬Y a):dV w' gc a s n:=by
 obtain⟨e,⟨v,d,c⟩,k⟩:=h;exact⟨(b.block gc (IX.1 e).1 i).trans e,⟨v,(b.block a (IX.1 d).1 f).trans d,c.1.step8 b j,c.2⟩,k⟩
structure ot (wb:World)(Y:Nat->Prop)(gm gc gs gP:Nat)(pv rowv:Value)(S:Sd->Prop)(secret:List UInt8)(n:Nat)(l:List St)(j:Nat)(w:World):Prop where
 mk ::
 km:bo prog 3 (λg=>some g=rowv.ownBlock) w gm (1+j) S
 once:dV w gc gs secret n
 box:Bx w gP 27 #[pv,rowv]
 row:GZ bZ 74 (λg=>g<wb.heap.size) w wb.heap.size rowv l
 step:am Y wb w
theorem Hy (aa v1 v2 v3:Value)(t:List Nod)(K i:Nat)(seed secret info:List UInt8)(w:World)(hu:NL w aa t)(hr:aD t K)(hT:bk t K)(h1:Rd w v1 seed)(h2:Rd w v2 secret)(h3:Rd w v3 info)(F:(ats t (2*i)).kind=1)
  (q1:seed.length=32) (q2:secret.length=32) (ct:info.length<=1400) (aM:Tab w):
  Calls prog 20 #[aa,.int .i64 (i:Int),v1,v2,v3] w λe w'=>(∃ v,e=.returned (.tuple #[v,.int .i64 0])/\MV w' v ⟨ej t (i:Int) (aA t i K) (bG t K i seed secret info),cC [⟨2*(i:Int),seed⟩] secret (aA t i K),bG t K i seed secret info,fw secret (ixS t i K).length⟩)/\Kp w w':=by
 obtain⟨z1,z2,z3⟩:=hr.small;have em:=bP hr.le;have dd:=aD.lt_of (t:=t) (x:=2*i) (by rw[F];decide);have hi:i<2 ^ K:=by omega
 have ad:=(hr.there_iff i).2 F;have du:(ixS t i K).length<=10:=Js (kn t i K) hr.le;obtain⟨ch,ab⟩:=fY t i K;have dM:=Lib.hid (λW (b:Kp w W)=>pZ aa t K i W (hu.kp b) hr F (aM.kp b));have dW:=Lib.hid (λW (aa:Value) (s:List UInt8) (E:Rd W aa s)=>yi aa s W E);have ee:=Lib.hid (λW (v:Value) (hv:SL W v [⟨2*(i:Int),seed⟩])=>sW v [⟨2*(i:Int),seed⟩] W hv (Lw _ _) (by simp) (λk hk=>by
  have:k=0:=by simp at hk;omega
  subst this;show -9223372036854775808<=2*(i:Int)/\2*(i:Int)<=9223372036854775807
  omega))
 have cL:=Lib.hid (λW (b:Kp w W)=>yS v2 secret (ixS t i K).length W (h2.kp b) q2 (by omega));have dY:=Lib.hid (λW (b:Kp w W)=>Hk v2 secret W (h2.kp b));have bu:=Lib.hid (fun(w0 W:World) (uu n s q vs:Value) (j m gc gs:Nat) (x:Int) (d:j<(ixS t i K).length) (h0:Kp w0 W) (hw:Kp w w0) (hu:WIn w0 uu n s t K i) (hq:RI w0 q ((aU t i K).getD j [])) (E:RZ (λg=>g=gc) W vs (aW secret j)) (ho:dV W gc gs secret m) (et:w0.heap.size<=gc) (hm:m<=100000)=>
  Hp uu n s q vs v3 t K i ((aU t i K).getD j []) x (aW secret j) info secret m gc gs w0 W h0 hu hq E (h3.kp hw) ho et (λa ha=>by
   obtain⟨_,f2⟩:=lQ (a:=j) hr hi (by rw[ab];exact d);obtain⟨y,y1,y2,y3⟩:=f2 a ha;exact⟨y,y1,y2,hr.pub32 y3⟩) (lQ (a:=j) hr hi (by rw[ab];exact d)).1 hm q2 (by rw[jo q2];omega) ct)
 have eR:Hid (nS (aU t i K) 0=0):=rfl;have bD:=Lib.hid (λj (h:j<(ixS t i K).length)=>rW (who:=aU t i K) (k:=j) (by rw[ab];exact h));have bE:Hid (∀ j,j<=(ixS t i K).length->nS (aU t i K) j<=20480):=λj d=>by
  have:=rX (who:=aU t i K) (M:=2048) (λk hk=>(lQ (a:=k) hr hi hk).1) j (by rw[ab];exact d);omega
 have bF:=Lib.hid (λj (h:j<(ixS t i K).length)=>wS (t:=t) (secret:=secret) (info:=info) (who:=aU t i K) (k:=j) (by rw[ab];exact h));have d3:Hid ((makeS t secret info secret 0 (aU t i K)).length=(ixS t i K).length):=by unfold Hid;rw[nH,ab]
 have ck:(aA t i K).Nodup:=lP t i K;have cv:∀ a,a∈[(⟨2*(i:Int),seed⟩:Sd)]->∀ z∈aA t i K,a.node≠(z:Int):=λa ha z hz=>by
  rw[Ko] at ha;subst ha;have:=gU (fK hz);show 2*(i:Int)≠_
  omega
 have bz:=Lib.hid (λj (h:j<(ixS t i K).length) (z:Sd)=>yD (own:=λy=>y∈[(⟨2*(i:Int),seed⟩:Sd)]) (s:=secret) (n:=j) ck cv (by rw[ch];exact h) z);have eL:=Lib.hid (λz=>yC (own:=λy=>y∈[(⟨2*(i:Int),seed⟩:Sd)]) (s:=secret) (xs:=aA t i K) z);have av:Hid (∀ r:List Sd,srt r->(∀ y,y∈r↔fC (λy=>y∈[(⟨2*(i:Int),seed⟩:Sd)]) secret (aA t i K) (ixS t i K).length y)->r=cC [⟨2*(i:Int),seed⟩] secret (aA t i K)):=λr hr hm=>
  yE ck (Lw _ _) cv hr (by rw[ch];exact hm)
 have bA:=Lib.hid (λa (h:a<(ixS t i K).length)=>kE (t:=t) (i:=i) (m:=K) h);have aQ:Hid (∀ j,j<(ixS t i K).length->(aA t i K).getD j 0<=100000):=λj d=>by
  have hm:(aA t i K).getD j 0∈aA t i K:=by rw[IU,IV (by omega)];exact JD _
  have:=fd hi (fK hm);have hl:=hr.len;omega
 have aw:Hid (∀ j,j<=(ixS t i K).length->∀ s,fC (λy=>y∈[(⟨2*(i:Int),seed⟩:Sd)]) secret (aA t i K) j s->(-9223372036854775808<=s.node/\s.node<=9223372036854775807)/\s.seed.length<=2000):=λj d s E=>by
  rcases E with E|⟨a,ha,rfl⟩
  ·rw[Ko] at E
   subst E;refine⟨⟨?_,?_⟩,?_⟩
   ·show _<=2*(i:Int);omega
   ·show 2*(i:Int)<=_;omega
   ·show seed.length<=_;omega
  ·have:=aQ.out a (by omega)
   refine⟨⟨?_,?_⟩,?_⟩
   ·show _<=(((aA t i K).getD a 0:Nat):Int);omega
   ·show(((aA t i K).getD a 0:Nat):Int)<=_;omega
   ·show(bw secret a).length<=_;unfold bw;rw[lH];omega
 have ea:Hid (PIn w v1 v2 ⟨[],[]⟩->True):=λ_=>trivial
 have cQ:=Lib.hid (λW (b:Kp w W) (n s x y:Value) (ak:WIn W aa n s t K i) (hp:PIn W x y (bG t K i seed secret info))=>by
  have aJ:=ko t K i seed secret info;exact yL aa n s x y t K i (bG t K i seed secret info) W ak hr hT F hp aJ.2.1 (by rw[aJ.1,ab]) (λa ha=>(aJ.2.2 a (by omega)).2) (aM.kp b))
 have d2:Hid (bG t K i seed secret info=⟨dE seed,makeS t secret info secret 0 (aU t i K)⟩):=by unfold Hid bG;rw[(fk q1).2]
 have bL:=Lib.hid (λj (h:j<(ixS t i K).length)=>rT secret h);have bJ:=Lib.hid (jN secret (ixS t i K).length);have dO:=Lib.hid (λW (x:Int) (q v:Value) (c:List Int) j (hq:RI W q c) (hv:Rd W v (aW secret j))=>yM x q v c (aW secret j) W hq hv (by rw[jo q2 j];omega));have eK:Hid (∀ j,br (aW secret j) dT=bw secret j):=λj=>rfl
 simp only[eK.out] at dO;have bC:=Lib.hid (λW gm j (d:j<=(ixS t i K).length) (h:KM prog 3 W gm (1+j) (fC (λy=>y∈[(⟨2*(i:Int),seed⟩:Sd)]) secret (aA t i K) j))=>yN W h (by omega) (λs E=>(aw.out j d s E).1) (λs E=>(aw.out j d s E).2));have aT:Hid (∀ j,stS t secret info (aU t i K) j=⟨dE (bw secret j),bM t secret info (aW secret j) (nS (aU t i K) j) ((aU t i K).getD j [])⟩):=λj=>rfl
 have i2:IntKind.i64.wrap (2*(i:Int))=2*(i:Int):=IW _ (by omega);have HU:=Lib.hid hu;have H1:=Lib.hid h1;have H3:=Lib.hid h3;generalize ds:bG t K i seed secret info=MP at *;generalize dr:makeS t secret info secret 0 (aU t i K)=R at *;generalize dp:cC [⟨2*(i:Int),seed⟩] secret (aA t i K)=OE at *;generalize dw:fC (λy=>y∈[(⟨2*(i:Int),seed⟩:Sd)]) secret (aA t i K)=HL at *;generalize dv:ej t (i:Int) (aA t i K) MP=LP at *;generalize dq:nS (aU t i K)=G at *;obtain⟨a,c,rfl,p1,s1⟩:=hu.shape;obtain⟨a1,c1,rfl,_,_⟩:=h1.shape;obtain⟨a2,c2,rfl,_,_⟩:=h2.shape;obtain⟨a3,n3,c3,rfl⟩:=az h3;have eY:Hid (∀ j,(aW secret j).length=32):=λj=>jo q2 j
 generalize aA t i K=ST at *;obtain⟨M,hM⟩:∃ M,(ixS t i K).length=M:=⟨_,rfl⟩;have ax:Hid ((cW t i K).length=M):=by unfold Hid;rw[ik,hM]
 rw[hM] at du cL bu bD bE bF d3 bz av bA aQ aw bL bJ bC ⊢;generalize ex:t.length=N at *;rw[q1] at *;rw[q2] at *;clear hu hr hT h1 h2 h3 F ct aM z2 z3 em dd hi ad ch ab ck cv ds dr dp dw dv dq hM ex q1 q2 aw ea;unfold maxLen at s1;go_enter func20,ntmps20;go_wp2_with fail;obtain⟨w1,be⟩:∃ w1,w.alloc (.cells #[.slice none 0 0,.slice none 0 0,.slice none 0 0,.slice none 0 0,.slice none 0 0] 47)=w1:=⟨_,rfl⟩;have ef:Hid (Bx w1 w.heap.size 47 #[.slice none 0 0,.slice none 0 0,.slice none 0 0,.slice none 0 0,.slice none 0 0]):=by unfold Hid;rw[<-be];exact Bx.new w _ _
 have K1:Hid (Kp w w1):=by unfold Hid;rw[<-be];exact(Kp.refl _).alloc _
 rw[be];clear be;refine(dM.out w1 K1.out).mono ?_;rintro _ w2 ⟨⟨nv,sv,rfl,ak⟩,k2⟩;obtain⟨an,nn,cn,rfl⟩:=ak.nodes.sl;obtain⟨aN,af,rfl,q5,q6⟩:=SE.shape ak.steps;rw[ax.out] at ak q5 ⊢;have bx:=Lib.hid ak;have K2:=Lib.hid (K1.out.trans k2);have dL:=Lib.hid k2;clear ak k2 dM;go_wp2_with fail;obtain⟨w3,bd⟩:∃ x,w2.alloc (.cells #[.slice a N c,.int .i64 (i:Int),.slice an nn cn,.slice aN M af] 95)=x:=⟨_,rfl⟩;have ai:Hid (Bx w3 w2.heap.size 95 #[.slice a N c,.int .i64 (i:Int),.slice an nn cn,.slice aN M af]):=by unfold Hid;rw[<-bd];exact Bx.new w2 _ _
 have ag:Hid (Kp w2 w3):=by unfold Hid;rw[<-bd];exact(Kp.refl _).alloc _
 try rw[bd]
 clear bd;go_wp2_with fail;refine(dW.out w3 _ seed (H1.out.kp (K2.out.trans ag.out))).mono ?_;rintro _ p ⟨⟨pv,rfl,rp,np⟩,k4⟩;obtain⟨ap,n4,c4,rfl⟩:=az rp;have RP:=Lib.hid rp;have NP:=Lib.hid np;have bs:=Lib.hid k4;clear rp np k4;go_wp2_with fail;obtain⟨w5,aB⟩:∃ x,p.alloc (.cells #[.slice ap n4 c4,.slice none 0 0] 27)=x:=⟨_,rfl⟩;have cS:Hid (Bx w5 p.heap.size 27 #[.slice ap n4 c4,.slice none 0 0]):=by unfold Hid;rw[<-aB];exact Bx.new p _ _
 have bp:Hid (Kp p w5):=by unfold Hid;rw[<-aB];exact(Kp.refl _).alloc _
 have I:Hid (w5.heap.size=p.heap.size+1):=by unfold Hid;rw[<-aB];simp
 try rw[aB]
 clear aB;go_wp2_with fail;have dI:Hid (Kp w w5):=((K2.out.trans ag.out).trans bs.out).trans bp.out;have a0:Hid (SL (w5.alloc (.cells #[.int .i64 (2*(i:Int)),.slice a1 32 c1] 90)) (.slice (some ⟨p.heap.size+1,0,none⟩) 1 1) [⟨2*(i:Int),seed⟩]):=by
  have L:=SE.lit1 (S:=bY) (w:=w5) (vs:=[.int .i64 (2*(i:Int)),.slice a1 32 c1]) (x:=⟨2*(i:Int),seed⟩) (cs:=#[.int .i64 (2*(i:Int)),.slice a1 32 c1]) 90 ⟨_,rfl,H1.out.kp dI.out,bq.none _⟩ rfl;rw[I.out] at L;exact L
 obtain⟨P,cg⟩:∃ x,w5.alloc (.cells #[.int .i64 (2*(i:Int)),.slice a1 32 c1] 90)=x:=⟨_,rfl⟩;have au:Hid (Kp w5 P):=by unfold Hid;rw[<-cg];exact(Kp.refl _).alloc _
 rw[cg] at a0 ⊢;clear cg;refine(ee.out P _ a0.out).mono ?_;rintro _ w7 ⟨⟨rfl,cm⟩,k7⟩;have a4:=Lib.hid cm;have bn:=Lib.hid k7;have cH:Hid (Kp w w7):=(dI.out.trans au.out).trans k7;have eX:Hid (P.heap.size<w7.heap.size):=cm.lt;have dy:=(ai.out.kp (((bs.out.trans bp.out).trans au.out).trans k7)).cell 3;simp only[Jj,Jg,Jk] at dy;clear cm k7 ee a0;go_wp2_with fail;refine(cL.out w7 cH.out).mono ?_;rintro _ u ⟨⟨ov,lv,rfl,ho,hl,hf⟩,k8⟩;obtain⟨ae,ce,rfl,q7,q8⟩:=SE.shape ho;rw[bJ.out] at ho q7 hf ⊢;obtain⟨al,nl,cl,rfl⟩:=az hl;have bI:=Lib.hid (Jb ho hf);have d6:=Lib.hid hl;have T:=Lib.hid k8;clear ho hf hl k8 cL dy;go_wp2_with fail;refine(dY.out u (cH.out.trans T.out)).mono ?_;rintro _ A ⟨⟨rfl,bg⟩,k9⟩;have dX:=Lib.hid bg;have cJ:=Lib.hid k9;have fa:Hid (Kp w A):=(cH.out.trans T.out).trans k9;have dK:Hid (Kp w3 A):=(((((bs.out.trans bp.out).trans au.out).trans bn.out).trans T.out).trans k9);have b9:Hid (KM prog 3 A P.heap.size (1+0) (HL 0)):=((a4.out.kp (T.out.trans k9)).mono (by simp)).congr λz=>eL.out z
 have ed:=Lib.hid (cS.out.kp (((au.out.trans bn.out).trans T.out).trans k9));have dx:=(ai.out.kp dK.out).cell 3;simp only[Jj,Jg,Jk] at dx;have HZ:Hid (w.heap.size<w1.heap.size/\w1.heap.size<=w2.heap.size/\w2.heap.size<w3.heap.size/\w3.heap.size<=p.heap.size/\p.heap.size<w5.heap.size/\w5.heap.size<=P.heap.size/\P.heap.size<w7.heap.size/\w7.heap.size<=u.heap.size/\u.heap.size+1<A.heap.size):=
  ⟨(IX.1 ef.out).1,dL.out.size,(IX.1 ai.out).1,bs.out.size,(IX.1 cS.out).1,au.out.size,eX.out,T.out.size,(IX.1 bg.cnt).1⟩
 have bH:Hid (ot A (λ_=>False) P.heap.size (u.heap.size+1) u.heap.size p.heap.size (.slice ap n4 c4) (.slice none 0 0) (HL 0) secret 0 [] 0 A):=⟨b9.out.kz.mono (λg e=>by cases e),bg,ed.out,GZ.nil _ _ _,am.refl _ _⟩;have ca:=Lib.hid (a4.out.kp T.out);have cf:=Lib.hid (cS.out.kp ((au.out.trans bn.out).trans T.out));clear bg k9 dY a4 b9;go_wp2_with fail;have eE:∃ Y:Nat->Prop,∀ g,Y g↔(g=P.heap.size\/g=u.heap.size+1\/g=p.heap.size):=⟨_,λ_=>Iff.rfl⟩;obtain⟨Y,ew⟩:=eE;have HY:=Lib.hid ew;have bW:Hid (ot A Y P.heap.size (u.heap.size+1) u.heap.size p.heap.size (.slice ap n4 c4) (.slice none 0 0) (HL 0) secret 0 [] 0 A):=⟨bH.out.km,bH.out.once,bH.out.box,bH.out.row,am.refl _ _⟩;have bV:Hid (∀ W pv rv S n l j,ot A Y P.heap.size (u.heap.size+1) u.heap.size p.heap.size pv rv S secret n l j W->(∃ a n c,pv=.slice a n c)->∀ g,Y g->cj W g):=λW pv rv S n l j h el g o=>by
  obtain⟨e9,e3,e7,rfl⟩:=el;obtain⟨ar,V,cr,rfl⟩:=SE.sl h.row.gl;rcases (HY.out g).1 o with rfl|rfl|rfl
  ·exact cj.map h.km.km.nosolid
  ·exact cj.box h.once.cnt λj z d=>by
    match j with
    | 0=>cases d;exact λn e=>by cases e
    | j+1=>simp at d
  ·exact cj.box h.box λj z d=>by
    match j with
    | 0=>cases d;exact λn e=>by cases e
    | 1=>cases d;exact λn e=>by cases e
    | j+2=>simp at d
 have eT:Hid (R.take 0=[]):=Lq;go_loopw[64] (λz wr=>∃ (j:Nat) (rv:Value),j<=M/\z=.int .i64 (j:Int)/\ot A Y P.heap.size (u.heap.size+1) u.heap.size p.heap.size (.slice ap n4 c4) rv (HL j) secret (G j) (R.take j) j wr) (λz _=>(M - (intOf z).toNat))
 case atStart=>exact⟨0,_,Jl _,rfl,by rw[eT.out,eR.out];exact bW.out⟩
 case round=>
  obtain⟨j,rv,d,rfl,f⟩:=hrel;have J:=Lib.hid f;have hz:=HZ.out;have D:Hid (Kp w3 wr):=Kp.stepOld dK f.step (λg o=>by rcases (HY.out g).1 o with rfl|rfl|rfl <;> omega);obtain⟨ar,V,cr,rfl⟩:=SE.sl f.row.gl;have eZ:=Lib.hid (bV.out wr _ _ _ _ _ _ f ⟨_,_,_,rfl⟩);have O:Hid (∀ g,(Value.slice ar V cr).ownBlock=some g->A.heap.size<=g/\g<wr.heap.size):=f.row.lt;clear f hz dx;by_cases Q:j<M
  ·have hz:=HZ.out
   obtain⟨b1,o1,y1,q,e1,_,c0,dC,rq⟩:=aL.sp (i:=j) (bx.out.kp ag.out).steps (by rw[ax.out];exact Q);rw[ax.out] at e1;simp only[Ji] at e1;obtain⟨rfl,_,rfl⟩:=e1;rw[bA.out j Q] at c0 rq;dsimp only at c0 rq
   obtain⟨aq,nq,cq,rfl⟩:=rq.sl;have ei:=aQ.out j Q;have aS:=Lib.hid (bz.out j Q);have aZ:=Lib.hid (bF.out j Q);rw[aT.out j] at aZ;have bU:=Lib.hid (bD.out j Q);have d1:=Lib.hid (bE.out j d);have de:(R.take j).length+1<=1000000:=by rw[Jv];omega
   have h8:∀ g,Y g->cj u g:=λg o=>by
    rcases (HY.out g).1 o with rfl|rfl|rfl
    ·exact cj.map (ca.out.nosolid)
    ·exact cj.map λE=>by have:=E.lt;omega
    ·exact cj.box cf.out λj z d=>by
      match j with
      | 0=>cases d;exact λn e=>by cases e
      | 1=>cases d;exact λn e=>by cases e
      | j+2=>simp at d
   have dm:bq Y (.slice ae M ce):=λx n c e h0 hy=>by
    have:=bI.out.2 x n c e h0;have ct:=SE.inside bI.out.1 x n c e h0;rcases (HY.out _).1 hy with L|L|L
    ·exact this (by omega)
    ·omega
    ·exact this (by omega)
   obtain⟨b2,o2,y2,ve,e2,cX,bf⟩:=aL.bytesAt (i:=j) bI.out.1 h8 dm (by rw[bJ.out];exact Q);rw[bJ.out] at e2;simp only[Ji] at e2;obtain⟨rfl,_,rfl⟩:=e2;rw[show kr (dU secret M) j=aW secret j from bL.out j Q] at bf;obtain⟨a9,n9,c9,rfl⟩:=az (bf u (am.refl _ _)).2;have dN:=Lib.hid bf;have eF:=Lib.hid cX;have dH:Hid (am Y u wr):=(am.of_kp cJ.out).next J.out.step;obtain⟨X,hX⟩:∃ X,ST.getD j 0=X:=⟨_,rfl⟩;rw[hX] at c0 ei aS;obtain⟨CV,bj⟩:∃ C,(aU t i K).getD j []=C:=⟨_,rfl⟩;rw[bj] at rq aZ bU;have eM:=Lib.hid (λW (b:Kp w3 W)=>rq.kp b);have aR:=Lib.hid (fun(W:World) (x:Int) (h0:Kp w3 W) (E:RZ (λg=>g=u.heap.size+1) W (.slice a9 n9 c9) (aW secret j)) (ho:dV W (u.heap.size+1) u.heap.size secret (G j))=>
    bu.out w3 W (.slice a N c) (.slice an nn cn) (.slice (some ⟨b1,o1,none⟩) M af) (.slice aq nq cq) (.slice a9 n9 c9) j (G j) (u.heap.size+1) u.heap.size x Q h0 (K2.out.trans ag.out) (bx.out.kp ag.out) (by rw[bj];exact rq) E ho (by have:=HZ.out;omega) (by have:=d1.out;omega))
   rw[bj] at aR;have i1:IntKind.i64.wrap ((j:Int)+1)=(j:Int)+1:=IW _ (by omega);have i3:(j:Int)<(M:Int):=by omega
   have bO:Go.keyOf prog 3 (.int .i64 (X:Int))=some (.int .i64 (X:Int)):=keyOf_int_mk underlying3 (Ln (by omega));have cp:=bO;have ev:1+j<maxLen:=by unfold maxLen;omega
   have ez:=D.out.cell c0;have ey:=D.out.cell dC;obtain⟨B,bi⟩:∃ x,wr.alloc (.cells #[.int .i64 (X:Int),.slice aq nq cq] 99)=x:=⟨_,rfl⟩;have KQ:Hid (Kp wr B):=by unfold Hid;rw[<-bi];exact(Kp.refl _).alloc _
   have ec:Hid (Bx B wr.heap.size 99 #[.int .i64 (X:Int),.slice aq nq cq]):=by unfold Hid;rw[<-bi];exact Bx.new wr _ _
   have cV:¬Y wr.heap.size:=λhy=>by have:=J.out.step.size;rcases (HY.out _).1 hy with L|L|L <;> omega
   have cK:=Lib.hid cV;have I:Hid (∀ W,am Y B W->W.cell? ⟨wr.heap.size,0,none⟩=some (.int .i64 (X:Int))/\W.cell? ⟨wr.heap.size,1,none⟩=some (.slice aq nq cq)/\W.cell? ⟨b2,o2+j,none⟩=some (.slice a9 n9 c9)):=λW b=>
    ⟨b.cell (ec.out.cell 0) cK.out,b.cell (ec.out.cell 1) cK.out,(dN.out W (dH.out.next ((am.of_kp KQ.out).next b))).1⟩
   have cB:Hid (am Y B B.drew):=am.of_kp (Kp.refl B).drew;obtain⟨g0,g1,g2⟩:=I.out B (am.refl _ _);have aK:=ai.out.kp (D.out.trans KQ.out);have cA:=aK.cell 0;have cz:=aK.cell 1;have cy:=aK.cell 2;have cx:=aK.cell 3;simp only[Jj,Jg,Jk] at cA cz cy cx;have bt:Hid (¬Y w2.heap.size):=λhy=>by rcases (HY.out _).1 hy with L|L|L <;> omega
   have dP:Hid (∀ W,am Y B W->(W.cell? ⟨w2.heap.size,0,none⟩=some (.slice a N c)/\W.cell? ⟨w2.heap.size,1,none⟩=some (.int .i64 (i:Int))/\W.cell? ⟨w2.heap.size,2,none⟩=some (.slice an nn cn)/\W.cell? ⟨w2.heap.size,3,none⟩=some (.slice (some ⟨b1,o1,none⟩) M af)/\W.cell? ⟨wr.heap.size,0,none⟩=some (.int .i64 (X:Int))/\W.cell? ⟨wr.heap.size,1,none⟩=some (.slice aq nq cq)/\W.cell? ⟨b2,o2+j,none⟩=some (.slice a9 n9 c9))):=λW b=>⟨b.cell cA bt.out,b.cell cz bt.out,b.cell cy bt.out,b.cell cx bt.out,I.out W b⟩
   have bK:=Lib.hid (dP.out _ cB.out);have cI:Hid (Kp w3 B.drew):=(D.out.trans KQ.out).drew;have cD:=Lib.hid ((J.out.once.kp KQ.out).kp (Kp.refl B).drew);have bR:Hid (∀ W,am Y B W->RZ (λg=>g=u.heap.size+1) W (.slice a9 n9 c9) (aW secret j)):=λW b=>⟨(dN.out W (dH.out.next ((am.of_kp KQ.out).next b))).2,λx n c e h0 hk=>by have:=eF.out x n c e h0;omega⟩
   have fb:Hid (Kp w3 B):=D.out.trans KQ.out;clear hX bj c0 dC rq bf cX h8 dm bu bz bF aT bD bE aQ bA bL aK cV hz ax bC av cQ;go_wp2_with fail;try rw[bi]
   clear bi ez ey;go_region_held3 (λW=>W.cell? ⟨w2.heap.size,0,none⟩=some (.slice a N c)/\W.cell? ⟨w2.heap.size,1,none⟩=some (.int .i64 (i:Int))/\W.cell? ⟨w2.heap.size,2,none⟩=some (.slice an nn cn)/\W.cell? ⟨w2.heap.size,3,none⟩=some (.slice (some ⟨b1,o1,none⟩) M af)/\W.cell? ⟨wr.heap.size,0,none⟩=some (.int .i64 (X:Int))/\W.cell? ⟨wr.heap.size,1,none⟩=some (.slice aq nq cq)/\W.cell? ⟨b2,o2+j,none⟩=some (.slice a9 n9 c9))
    (first|with_reducible exact bK.out|with_reducible exact S2.out)
    (first
     | (go_at_call 58;refine(aR.out _ (X:Int) cI.out (bR.out _ cB.out) cD.out).mono ?_;rintro _ wA ⟨⟨bv,rfl,dj⟩,en,cZ⟩;obtain⟨bm,bc,bl,rfl⟩:=SE.sl dj.gl;have cR:=Lib.hid dj;have cM:=Lib.hid en;have aV:=Lib.hid cZ;have bB:Hid (am Y B wA):=cB.out.next (cZ.mono λg o=>by rw[o];exact(HY.out _).2 (.inr (.inl rfl)));have S2:=Lib.hid (dP.out _ bB.out)))
   rw[<-bU.out] at cM;have eQ:Hid (∀ g,g=u.heap.size+1->cj B.drew g):=λg e=>by
    subst e;exact cj.box cD.out.cnt λj z d=>by
     match j with
     | 0=>cases d;exact λn e=>by cases e
     | j+1=>simp at d
   have hz:=HZ.out;have b8:Hid (bo prog 3 (λg=>some g=(Value.slice ar V cr).ownBlock) wA P.heap.size (1+j) (HL j)):=((J.out.km.kp KQ.out).kp (Kp.refl B).drew).step aV.out (λg e=>.inr (eQ.out g e)) (λe=>by omega);have bb:Hid (Bx wA p.heap.size 27 #[.slice ap n4 c4,.slice ar V cr]):=(aV.out.block p.heap.size (IX.1 ((J.out.box.kp KQ.out).kp (Kp.refl B).drew)).1 (λe=>by omega)).trans ((J.out.box.kp KQ.out).kp (Kp.refl B).drew);have bT:Hid (GZ bZ 74 (λg=>g<A.heap.size) wA A.heap.size (.slice ar V cr) (R.take j)):=((J.out.row.kp KQ.out).kp (Kp.refl B).drew).step (Y:=λg=>g=u.heap.size+1) aV.out (λg e=>.inl (by show g<A.heap.size;omega)) (λg o e=>by have:=(O.out g o).1;omega);have d8:Hid (Kp w3 wA):=Kp.stepOld cI.out aV.out (λg e=>by omega);have H:Hid (wr.heap.size<=B.drew.heap.size/\B.drew.heap.size<=wA.heap.size/\A.heap.size<=wr.heap.size):=⟨KQ.out.size,aV.out.size,J.out.step.size⟩;have dG:Hid (am Y B wA.drew):=bB.out.next (am.of_kp (Kp.refl wA).drew);have S3:=Lib.hid (I.out _ dG.out);have dS:=Lib.hid (eM.out wA.drew d8.out.drew);have eG:=Lib.hid (bR.out wA.drew dG.out).1;have es:¬Y wr.heap.size:=cK.out;obtain⟨g0,g1,g2⟩:=I.out wA bB.out;clear bK S2 cD cI es hz aR cA cz cy cx;go_wp2_with fail;go_region_held3 (λW=>W.cell? ⟨wr.heap.size,0,none⟩=some (.int .i64 (X:Int))/\W.cell? ⟨wr.heap.size,1,none⟩=some (.slice aq nq cq)/\W.cell? ⟨b2,o2+j,none⟩=some (.slice a9 n9 c9))
    (first|with_reducible exact S3.out|with_reducible exact S4.out|with_reducible exact S5.out)
    (first
     | (go_at_call 59;refine(dO.out _ (X:Int) _ _ _ j dS.out eG.out).mono ?_;rintro _ wB ⟨⟨v5,rfl,r5,eh⟩,k5⟩;obtain⟨a5,n5,c5,rfl⟩:=az r5;have KB:Hid (Kp wA wB):=(Kp.refl wA).drew.trans k5;have SB:Hid (am Y B wB):=bB.out.next (am.of_kp KB.out);have S4:=Lib.hid (I.out _ SB.out);have d5:=Lib.hid (b8.out.kp KB.out);have eC:Hid (RZ (λg=>some g=(Value.slice ar V cr).ownBlock) wB (.slice a5 n5 c5) (bw secret j)):=⟨r5,cO eh λg o=>by have:=(O.out g o.symm).2;have:=H.out;have h2:wA.drew.heap.size=wA.heap.size:=rfl;omega⟩;obtain⟨wC,aH,er,dl⟩:=Hq (t:=103) (e:=90) fO underlying103 d5.out ev ⟨(X:Int),bw secret j⟩ (.slice a5 n5 c5) bO eC.out;dsimp only at aH;have eW:=Lib.hid er;have a6:=Lib.hid dl;have SC:Hid (am Y B wC):=SB.out.then dl (λg o=>by cases o;exact .inr ((HY.out _).2 (.inl rfl)));have S5:=Lib.hid (I.out _ SC.out)))
   have aP:Hid (am (λg=>g=P.heap.size) wB wC):=⟨a6.out.os,a6.out.tape,a6.out.output,a6.out.size,λk hk hn=>a6.out.block k hk (λe=>hn (by cases e;rfl))⟩;have eP:Hid (∀ g,g=P.heap.size->cj wB g):=λg e=>by subst e;exact cj.map d5.out.km.nosolid
   have hz:=HZ.out;have b7:Hid (bo prog 3 (λg=>some g=(Value.slice ar V cr).ownBlock) wC P.heap.size (1+(j+1)) (HL (j+1))):=eW.out.congr λy=>aS.out y
   have di:HL (j+1) ⟨(X:Int),bw secret j⟩:=(aS.out _).2 (.inl rfl);have d0:Hid (dV wC (u.heap.size+1) u.heap.size secret (G (j+1))):=cM.out.kp KB.out |>.over aP.out eP.out (λe=>by omega) (λe=>by omega)
   have ba:Hid (Bx wC p.heap.size 27 #[.slice ap n4 c4,.slice ar V cr]):=(aP.out.block p.heap.size (IX.1 (bb.out.kp KB.out)).1 (λe=>by omega)).trans (bb.out.kp KB.out);have dQ:Hid (GZ bZ 74 (λg=>g<A.heap.size) wC A.heap.size (.slice ar V cr) (R.take j)):=(bT.out.kp KB.out).step (Y:=λg=>g=P.heap.size) aP.out (λg e=>.inl (by show g<A.heap.size;omega)) (λg o e=>by have:=(O.out g o).1;omega);have cb:Hid (GZ da 92 (λg=>g<B.drew.heap.size) wC B.drew.heap.size (.slice bm bc bl) (bM t secret info (aW secret j) (G j) CV)):=(cR.out.kp KB.out).step (Y:=λg=>g=P.heap.size) aP.out (λg e=>.inl (by show g<B.drew.heap.size;have:=H.out;omega)) (λg o e=>by have:=(cR.out.lt g o).1;have:=H.out;omega);have bQ:Hid (wA.heap.size<=wB.heap.size/\wB.heap.size<=wC.heap.size):=⟨KB.out.size,aP.out.size⟩;clear S3 S4 S5 b8 bb bT cR cM aH hz g0 g1 g2;have dZ:=d0.out.cnt;have eU:=Lib.hid (b7.out.km.kp (Kp.refl wC).drew);have zs:=kN wC.drew;have e5:=qg (X:Int);obtain⟨qd,aG,ci⟩:=sX (e:=90) 103 fO underlying103 zs eU.out ⟨(X:Int),bw secret j⟩ di cp;obtain⟨e8,e0,e6,rfl⟩:=az ci;dsimp only [sdV] at aG
   obtain⟨g0,_,_⟩:=I.out wC SC.out;have cP:=ba.out.cell 1;simp only[Jj,Jg,Jk] at cP;have eN:=Lib.hid ci;clear dZ zs ci;go_wp2_with fail;go_region_law (first
    | (refine Hr (S:=bZ) (Z:=λg=>g<A.heap.size) stK rfl (.tmp 95) (.tmp 104) rfl A.heap.size _ (R.take j) rfl bS.out _ ⟨dE (bw secret j),bM t secret info (aW secret j) (G j) CV⟩ rfl b6.out de cd.out ?_;intro vF wE oE gE aE;obtain⟨aF,nF,cF,rfl⟩:=SE.sl oE.gl;have ah:Hid (Bx wE p.heap.size 27 #[.slice ap n4 c4,.slice ar V cr]):=a7.out.grown gE (λe=>by have:=(O.out _ e.symm).1;have:=HZ.out;omega);have cE:=ah.out.cell 1;have fE:=ah.out.frozen 1;simp only[Jj,Jg,Jk] at cE;have OE:=Lib.hid oE;have GE:=Lib.hid gE;have AE:=Lib.hid aE)
    | (go_simp;go_at_call 55;refine(dW.out _ _ (bw secret j) eN.out).mono ?_;rintro _ wD ⟨⟨v8,rfl,r8,eg⟩,k8⟩;obtain⟨a8,n8,c8,rfl⟩:=az r8;have KD:Hid (Kp wC wD):=(Kp.refl wC).drew.trans k8;have dA:=(ba.out.kp KD.out).cell 1;simp only[Jj,Jg,Jk] at dA;have ay:Hid (Kp wC (wD.alloc (.cells #[.slice a8 n8 c8,.slice bm bc bl] 74))):=KD.out.alloc _;have bS:=Lib.hid (dQ.out.kp ay.out);have a7:=Lib.hid (ba.out.kp ay.out);have dB:=a7.out.cell 1;simp only[Jj,Jg,Jk] at dB;have cd:Hid (A.heap.size<=(wD.alloc (.cells #[.slice a8 n8 c8,.slice bm bc bl] 74)).heap.size):=(by have h5:=ay.out.size;have:=H.out;have:=bQ.out;unfold Hid;omega);have b6:Hid (SE bZ (λg=>some g=(Value.slice ar V cr).ownBlock\/g<A.heap.size) (wD.alloc (.cells #[.slice a8 n8 c8,.slice bm bc bl] 74)) (.slice (some ⟨wD.heap.size,0,none⟩) 1 1) [⟨dE (bw secret j),bM t secret info (aW secret j) (G j) CV⟩]):=SE.litZ (S:=bZ) 74 ⟨_,_,rfl,⟨r8,cO eg λg o=>by have h6:wC.drew.heap.size=wC.heap.size:=rfl;have:=H.out;have:=bQ.out;rcases o with h5|h5;(· have:=(O.out g h5.symm).2;omega);(· omega)⟩,⟨((cb.out.kp KD.out).se).mono λg o=>by show g<B.drew.heap.size;have:=H.out;rcases o with h5|h5;(· have:=(O.out g h5.symm).2;omega);(· omega),cO (C:=B.drew.heap.size) (λg o=>(cb.out.lt g o).1) λg o=>by have:=H.out;rcases o with h5|h5;(· have:=(O.out g h5.symm).2;omega);(· omega)⟩⟩ rfl))
   all_goals (
    obtain⟨wz,aj⟩:∃ x,wE.setCell ⟨p.heap.size,1,none⟩ (.slice aF nF cF)=x:=⟨_,rfl⟩;have hz:=HZ.out;have cc:Hid (Bx wz p.heap.size 27 #[.slice ap n4 c4,.slice aF nF cF]):=by unfold Hid;rw[<-aj];exact ah.out.set 1 (.slice aF nF cF)
    have aO:Hid (am (λg=>g=p.heap.size) wE wz):=by unfold Hid;rw[<-aj];exact(am.refl _ _).setCell _ _ (.inr rfl)
    have h3:am Y A wE:=((((J.out.step.next (am.of_kp KQ.out)).next SC.out).next (am.of_kp ay.out)).then GE.out (λk hk=>.inl (O.out k hk).1));have h4:am Y A wz:=h3.next (aO.out.mono λg e=>by rw[e];exact(HY.out _).2 (.inr (.inr rfl)));have dc:∀ g,g=p.heap.size->cj wE g:=λg e=>by
     subst e;exact cj.box ah.out λj z d=>by
      match j with
      | 0=>cases d;exact λn e=>by cases e
      | 1=>cases d;exact λn e=>by cases e
      | j+2=>simp at d
    have dh:bo prog 3 (λg=>some g=(Value.slice aF nF cF).ownBlock) wE P.heap.size (1+(j+1)) (HL (j+1)):=(b7.out.kp ay.out).moved GE.out AE.out (λe=>by have:=(O.out _ e.symm).1;omega);have df:=dh.step aO.out (λg e=>.inr (dc g e)) (λe=>by omega);have cw:Bx wE (u.heap.size+1) 3 #[.int .i64 ((G (j+1):Nat):Int)]:=(d0.out.cnt.kp ay.out).grown GE.out (λe=>by have:=(O.out _ e.symm).1;omega);have dn:Bx wz (u.heap.size+1) 3 #[.int .i64 ((G (j+1):Nat):Int)]:=(aO.out.block _ (IX.1 cw).1 (λe=>by omega)).trans cw;have c7:dV wz (u.heap.size+1) u.heap.size secret (G (j+1)):=by
     obtain⟨_,⟨vv,dD,cT⟩,_⟩:=dX.out;refine⟨dn,⟨vv,(h4.block _ (IX.1 dD).1 (λhy=>by rcases (HY.out _).1 hy with L|L|L <;> omega)).trans dD,cT.1.step8 h4 (bV.out A _ _ _ _ _ _ bW.out ⟨_,_,_,rfl⟩),cT.2⟩,by omega⟩
    have bh:=OE.out;rw[<-aZ.out] at bh;have c6:=bh.step (Y:=λg=>g=p.heap.size) aO.out (λg e=>.inl (by show g<A.heap.size;omega)) (λg o e=>by have:=(bh.lt g o).1;omega);have eS:Hid (ot A Y P.heap.size (u.heap.size+1) u.heap.size p.heap.size (.slice ap n4 c4) (.slice aF nF cF) (HL (j+1)) secret (G (j+1)) (R.take (j+1)) (j+1) wz):=⟨df,c7,cc.out,c6,h4⟩;try rw[aj]
    clear aj h3 h4 dc dh df cw dn c7 bh c6 cc aO hz cE fE cP dA dB ah b6 bS a7 cd g0 aG;go_wp2_with fail;go_roundw
    case rel=>exact⟨j+1,_,by omega,by first|rfl|(rw[i1];rfl),eS.out⟩
    case measure=>simp[intOf];omega)
  ·obtain rfl:j=M:=by omega
   have h1:¬(j:Int)<(j:Int):=by omega
   have hz:=HZ.out;have cY:R.take j=R:=by rw[<-d3.out];exact JM
   have f:=J.out;rw[cY] at f;have d4:=Lib.hid f;have bN:=bx.out.kp ag.out;have eD:Hid (Kp p wr):=Kp.stepOld ((((bp.out.trans au.out).trans bn.out).trans T.out).trans cJ.out) f.step (λg o=>by rcases (HY.out g).1 o with L|L|L <;> omega);have cG:Hid (Kp w wr):=(K2.out.trans ag.out).trans D.out;have aY:Hid (∀ W,Kp wr W->PIn W (.slice ap n4 c4) (.slice ar V cr) MP):=λW b=>by
    rw[d2.out];exact⟨RP.out.kp (eD.out.trans b),aL.kp f.row.gl b⟩
   have d7:=Lib.hid (λW (b:Kp wr W)=>cQ.out W (cG.out.trans b) _ _ _ _ (bN.kp (D.out.trans b)) (aY.out W b));have dR:=Lib.hid (λW (b:Kp wr W)=>bC.out W P.heap.size j (Ja _) (f.km.km.kp b));have bX:Hid (Rd wr (.slice al nl cl) (fw secret j)):=d6.out.step8 ((am.of_kp cJ.out).next f.step) (λg o=>by
    rcases (HY.out g).1 o with L|L|L
    ·subst L;exact cj.map ca.out.nosolid
    ·exact cj.map λE=>by have:=E.lt;omega
    ·subst L
     exact cj.box cf.out λj z d=>by
      match j with
      | 0=>cases d;exact λn e=>by cases e
      | 1=>cases d;exact λn e=>by cases e
      | j+2=>simp at d)
   have U:Hid (∀ W,Kp wr W->Bx W w.heap.size 47 #[.slice none 0 0,.slice none 0 0,.slice none 0 0,.slice none 0 0,.slice none 0 0]):=λW b=>ef.out.kp ((dL.out.trans ag.out).trans (D.out.trans b))
   have aX:Hid (∀ W,Kp wr W->(W.cell? ⟨w2.heap.size,0,none⟩=some (.slice a N c)/\W.cell? ⟨w2.heap.size,1,none⟩=some (.int .i64 (i:Int))/\W.cell? ⟨w2.heap.size,2,none⟩=some (.slice an nn cn)/\W.cell? ⟨w2.heap.size,3,none⟩=some (.slice aN j af)/\W.cell? ⟨p.heap.size,0,none⟩=some (.slice ap n4 c4)/\W.cell? ⟨p.heap.size,1,none⟩=some (.slice ar V cr))):=λW b=>
    ⟨(ai.out.kp (D.out.trans b)).cell 0,(ai.out.kp (D.out.trans b)).cell 1,(ai.out.kp (D.out.trans b)).cell 2,(ai.out.kp (D.out.trans b)).cell 3,(f.box.kp b).cell 0,(f.box.kp b).cell 1⟩
   have eJ:Hid (∀ W Wz,Kp wr W->am (λg=>g=w.heap.size) W Wz->(Wz.cell? ⟨w2.heap.size,0,none⟩=some (.slice a N c)/\Wz.cell? ⟨w2.heap.size,1,none⟩=some (.int .i64 (i:Int))/\Wz.cell? ⟨w2.heap.size,2,none⟩=some (.slice an nn cn)/\Wz.cell? ⟨w2.heap.size,3,none⟩=some (.slice aN j af)/\Wz.cell? ⟨p.heap.size,0,none⟩=some (.slice ap n4 c4)/\Wz.cell? ⟨p.heap.size,1,none⟩=some (.slice ar V cr))):=λW Wz b E=>by
    obtain⟨b0,eB,eA,b3,b4,b5⟩:=aX.out W b;exact⟨E.cell b0 (λe=>by have h5:w2.heap.size=w.heap.size:=e;omega),E.cell eB (λe=>by have h5:w2.heap.size=w.heap.size:=e;omega),E.cell eA (λe=>by have h5:w2.heap.size=w.heap.size:=e;omega),E.cell b3 (λe=>by have h5:w2.heap.size=w.heap.size:=e;omega),E.cell b4 (λe=>by have h5:p.heap.size=w.heap.size:=e;omega),E.cell b5 (λe=>by have h5:p.heap.size=w.heap.size:=e;omega)⟩
   have KD:Hid (Kp wr wr.drew):=(Kp.refl wr).drew;have bK:=Lib.hid (aX.out _ KD.out);have d9:Hid (∀ W Wz (rt ro:Value),Kp wr W->NL W rt LP->GZ bY 90 (λg=>g<wr.heap.size) W wr.heap.size ro OE->am (λg=>g=w.heap.size) W Wz->MIn Wz rt ro (.slice ap n4 c4) (.slice ar V cr) (.slice al nl cl) ⟨LP,OE,MP,fw secret j⟩):=λW Wz rt ro b hn o aC=>by
    have ep:=sM (U.out W b);have db:∀ g,g=w.heap.size->cj W g:=λg e=>by
     subst e;exact cj.box (U.out W b) λj z d=>by
      match j with
      | 0=>cases d;exact λn e=>by cases e
      | 1=>cases d;exact λn e=>by cases e
      | 2=>cases d;exact λn e=>by cases e
      | 3=>cases d;exact λn e=>by cases e
      | 4=>cases d;exact λn e=>by cases e
      | j+5=>simp at d
    have e4:w.heap.size<wr.heap.size:=by have:=cG.out.size;have:=D.out.size;omega
    refine⟨NL.sly hn ep aC,(o.step (Y:=λg=>g=w.heap.size) aC (λg e=>.inl (by show g<wr.heap.size;omega)) (λg cu e=>by have:=(o.lt g cu).1;omega)).gl,?_,(bX.out.kp b).step8 aC db⟩;have hp:=aY.out W b;rw[d2.out] at hp ⊢;exact⟨hp.pub.step8 aC db,((f.row.kp b).step (Y:=λg=>g=w.heap.size) aC (λg e=>.inl (by show g<A.heap.size;omega)) (λg cu e=>by have:=(f.row.lt g cu).1;omega)).gl⟩
   obtain⟨t0,t1,t2,t3,t4,t5⟩:=aX.out wr (Kp.refl _);clear cY f bN aY J bx cQ bC bu bz bF aT bD bE aQ bA bL bX bI d4 d6 hz;go_wp2_with fail;go_region_held3 (λW=>W.cell? ⟨w2.heap.size,0,none⟩=some (.slice a N c)/\W.cell? ⟨w2.heap.size,1,none⟩=some (.int .i64 (i:Int))/\W.cell? ⟨w2.heap.size,2,none⟩=some (.slice an nn cn)/\W.cell? ⟨w2.heap.size,3,none⟩=some (.slice aN j af)/\W.cell? ⟨p.heap.size,0,none⟩=some (.slice ap n4 c4)/\W.cell? ⟨p.heap.size,1,none⟩=some (.slice ar V cr))
    (first|with_reducible exact bK.out|with_reducible exact S2.out|with_reducible exact S3.out|with_reducible exact S4.out)
    (first
     | (go_at_call 61;refine(dR.out _ KT.out).mono ?_;rintro _ wv ⟨⟨vo,lo,rfl,ek,eo,dk⟩,kv⟩;obtain rfl:=av.out lo ek eo;obtain⟨ao,no,co,rfl⟩:=SE.sl dk.gl;have KV:Hid (Kp wr wv):=KT.out.trans kv;have S3:=Lib.hid (aX.out _ KV.out);have cN:=Lib.hid (pX (U.out wv KV.out) (.slice dF cU dz) (.slice ao no co) (.slice ap n4 c4) (.slice ar V cr) (.slice al nl cl));have S4:=Lib.hid (eJ.out wv _ KV.out cN.out.2.1);have eH:=Lib.hid (eI.out.kp kv);have eO:Hid (GZ bY 90 (λg=>g<wr.heap.size) wv wr.heap.size (.slice ao no co) lo):=(dk.solidly λg o=>.inr (.inl (show g<wT.heap.size from Jh o KT.out.size))).mono KT.out.size;have ad:=(U.out wv KV.out).there;have j0:=(U.out wv KV.out).cell 0;have j1:=(U.out wv KV.out).cell 1;have j2:=(U.out wv KV.out).cell 2;have j3:=(U.out wv KV.out).cell 3;have j4:=(U.out wv KV.out).cell 4;have f0:=(ad 0 (by decide)).2;have f1:=(ad 1 (by decide)).2;have f2:=(ad 2 (by decide)).2;have f3:=(ad 3 (by decide)).2;have f4:=(ad 4 (by decide)).2;clear ad;rw[JS] at f0 f1 f2 f3 f4;simp only[Jj,Jg,Jk] at j0 j1 j2 j3 j4)
     | (go_at_call 60;refine(d7.out _ KD.out).mono ?_;rintro _ wT ⟨⟨rt,rfl,ht⟩,kT⟩;obtain⟨dF,cU,dz,rfl⟩:=ht.sl;have eI:=Lib.hid ht;have KT:Hid (Kp wr wT):=KD.out.trans kT;have S2:=Lib.hid (aX.out _ KT.out)))
   all_goals (
    obtain⟨wz,aj⟩:∃ x,((((wv.setCell ⟨w.heap.size,0,none⟩ (.slice dF cU dz)).setCell ⟨w.heap.size,1,none⟩ (.slice ao no co)).setCell ⟨w.heap.size,2,none⟩ (.slice ap n4 c4)).setCell ⟨w.heap.size,3,none⟩ (.slice ar V cr)).setCell ⟨w.heap.size,4,none⟩ (.slice al nl cl)=x:=⟨_,rfl⟩;have aI:=cN.out;rw[aj] at aI ⊢;have I:=Lib.hid aI;have eb:=Lib.hid (d9.out wv wz _ _ KV.out eH.out eO.out aI.2.1);have dJ:Hid (Kp w wz):=aI.2.2 w (cG.out.trans KV.out) (Ja _);clear aI aj bK S2 S3 S4 cN j0 j1 j2 j3 j4 f0 f1 f2 f3 f4 t0 t1 t2 t3 t4 t5;go_wp2_with fail;refine bodyPost_ret (eV rfl _ _ w.heap.size _ _ (0,0) _ _ rfl I.out.1 underlying47 rfl dg rfl) rfl ?_;exact⟨⟨_,rfl,_,_,_,_,_,rfl,eb.out⟩,dJ.out⟩)
theorem Hz (aa M L J:Value)(t:List Nod)(K:Nat)(i:Int)(seed secret info:List UInt8)(w:World)(D:NL w aa t)(E:aD t K)(B:Rd w M seed)(A:Rd w L secret)(P:Rd w J info)(k:el t i seed secret≠0):
  Calls prog 20 #[aa,.int .i64 i,M,L,J] w λe w'=>(∃ v,e=.returned (.tuple #[v,.int .i64 (el t i seed secret)])/\MV w' v ig)/\Kp w w':=by
 obtain⟨T,S,R⟩:=E.small;have l:=Lib.hid (fun(U:¬bf t i) W (V:Kp w W)=>sN aa t K i W (D.kp V) E U);obtain⟨a,c,rfl,_,_⟩:=D.shape;obtain⟨a1,c1,rfl,_,_⟩:=B.shape;obtain⟨a2,c2,rfl,_,_⟩:=A.shape;obtain⟨a3,Z,c3,rfl⟩:=az P;obtain⟨p,j⟩:∃ p,w.alloc (.cells #[.slice none 0 0,.slice none 0 0,.slice none 0 0,.slice none 0 0,.slice none 0 0] 47)=p:=⟨_,rfl⟩;have O:Bx p w.heap.size 47 #[.slice none 0 0,.slice none 0 0,.slice none 0 0,.slice none 0 0,.slice none 0 0]:=by rw[<-j];exact Bx.new w _ _
 have b:Hid (Kp w p):=by unfold Hid;rw[<-j];exact(Kp.refl _).alloc _
 have y:=Lib.hid O;have n:=Lib.hid j;have g:el t i seed secret=if seed.length=32/\secret.length=32 then dM t i else 1:=rfl
 generalize t.length=N at *;clear D E O j T S R P;by_cases o:seed.length=32
 ·by_cases z:secret.length=32
  ·rw[if_pos ⟨o,z⟩] at g
   have m:¬bf t i:=λh=>k (by rw[g];unfold dM;rw[if_pos h])
   have u:el t i seed secret=11:=by rw[g];unfold dM;rw[if_neg m]
   have x:=Lib.hid (l.out m p b.out);rw[u,o,z];clear g k m u B A o z l;go_enter func20,ntmps20;go_wp2_with fail;rw[n.out];refine x.out.mono ?_;rintro _ w2 ⟨rfl,C⟩;have H:=Lib.hid (y.out.kp C);have Y:=Lib.hid (b.out.trans C);clear C;have G:=Lib.hid (H.out.kp ((Kp.refl w2).alloc (.cells #[.slice none 0 0,.int .i64 0,.slice none 0 0,.slice none 0 0] 95)));have X:Hid (Kp w (w2.alloc (.cells #[.slice none 0 0,.int .i64 0,.slice none 0 0,.slice none 0 0] 95))):=Y.out.alloc _;go_wp2_with(refine fe rfl rfl 47 (.tmp 10) (.tmp 40) rfl w.heap.size 47 _ #[.slice none 0 0,.slice none 0 0,.slice none 0 0,.slice none 0 0,.slice none 0 0] rfl rfl G.out rfl iq dg ?_;intro I f Q d)
   have s:=d w X.out (Ja _);refine bodyPost_ret (eV rfl _ _ w.heap.size _ _ (0,0) _ _ rfl f underlying47 rfl dg rfl) rfl ?_;exact⟨⟨_,rfl,_,_,_,_,_,rfl,MIn.none _⟩,s⟩
  ·rw[if_neg λh=>z h.2] at g
   have F:((secret.length:Int)==32)=false:=Jd.2 (by omega);have r:((secret.length:Int) != 32)=true:=KX.2 (by omega);have q:¬(secret.length:Int)=32:=by omega
   rw[g,o];clear k g B A o l;go_enter func20,ntmps20;rw[<-n.out] at y b;go_wp2_with(refine fe rfl rfl 47 (.tmp 10) (.tmp 31) rfl w.heap.size 47 _ #[.slice none 0 0,.slice none 0 0,.slice none 0 0,.slice none 0 0,.slice none 0 0] rfl rfl y.out rfl iq dg ?_;intro I f Q d)
   have s:=d w b.out (Ja _);refine bodyPost_ret (eV rfl _ _ w.heap.size _ _ (0,0) _ _ rfl f underlying47 rfl dg rfl) rfl ?_;exact⟨⟨_,rfl,_,_,_,_,_,rfl,MIn.none _⟩,s⟩
 ·rw[if_neg λh=>o h.1] at g
  have F:((seed.length:Int)==32)=false:=Jd.2 (by omega);have r:((seed.length:Int) != 32)=true:=KX.2 (by omega);have q:¬(seed.length:Int)=32:=by omega
  rw[g];clear k g B A l;go_enter func20,ntmps20;rw[<-n.out] at y b;go_wp2_with(refine fe rfl rfl 47 (.tmp 10) (.tmp 31) rfl w.heap.size 47 _ #[.slice none 0 0,.slice none 0 0,.slice none 0 0,.slice none 0 0,.slice none 0 0] rfl rfl y.out rfl iq dg ?_;intro I f Q d)
  have s:=d w b.out (Ja _);refine bodyPost_ret (eV rfl _ _ w.heap.size _ _ (0,0) _ _ rfl f underlying47 rfl dg rfl) rfl ?_;exact⟨⟨_,rfl,_,_,_,_,_,rfl,MIn.none _⟩,s⟩
end
theorem za (aa j g f:Value)(t:List Nod)(K:Nat)(i:Int)(seed secret info:List UInt8)(w:World)(o:NL w aa t)(m:aD t K)(u:bk t K)(r:Rd w j seed)(q:Rd w g secret)(p:Rd w f info)(n:info.length<=1400)(d:Tab w):
  Calls prog 20 #[aa,.int .i64 i,j,g,f] w λe w'=>(∃ v,e=.returned (.tuple #[v,.int .i64 (el t i seed secret)])/\MV w' v (eS t K i seed secret info))/\Kp w w':=by
 by_cases h:el t i seed secret=0
 ·have c:=h
  unfold el at c;by_cases l:seed.length=32/\secret.length=32
  ·rw[if_pos l] at c
   unfold dM at c;have a:bf t i:=by
    by_cases a:bf t i
    ·exact a
    ·rw[if_neg a] at c;cases c
   obtain⟨k,rfl,x,b,s⟩:=kq m a;unfold eS;rw[if_pos h,h,Jm];exact Hy aa j g f t K k seed secret info w o m u r q p b l.1 l.2 n d
  ·rw[if_neg l] at c
   cases c
 ·unfold eS
  rw[if_neg h];exact Hz aa j g f t K i seed secret info w o m r q p h
section
open Go.Maps
theorem Iw (aa v Y x y:Value)(t:List Nod)(K:Nat)(i me:Int)(own:List Sd)(info:List UInt8)(p:Pa)(w:World)(Q:NL w aa t)(G:aD t K)(hv:SL w v own)(hi:Rd w Y info)(T:PIn w x y p)(l:Tab w)(n:¬bf t i\/i=me):
  Calls prog 23 #[aa,.int .i64 i,.int .i64 me,v,Y,.agg #[x,y]] w λe w'=>(∃ v,e=.returned (.tuple #[v,.int .i64 (et t K i me own info p)])/\MV w' v (ez t K i me own info p))/\Kp w w':=by
 obtain⟨z1,z2,z3⟩:=G.small;have u:=Lib.hid (fun(hn:¬bf t i) W (E:Kp w W)=>sN aa t K i W (Q.kp E) G hn);have s:=Lib.hid (fun(k:Nat) (hk:(ats t (2*k)).kind=1) W (E:Kp w W)=>pZ aa t K k W (Q.kp E) G hk (l.kp E));have B:Hid (¬bf t i->et t K i me own info p=11/\ez t K i me own info p=ig):=λh=>by
  have J:et t K i me own info p=11:=by unfold et;rw[if_pos h]
  exact⟨J,by unfold ez;rw[if_neg (by rw[J];decide)]⟩
 have A:Hid (bf t i->i=me->et t K i me own info p=1/\ez t K i me own info p=ig):=λh h2=>by
  have J:et t K i me own info p=1:=by unfold et;rw[if_neg (by rw[Kw];exact h),if_pos h2]
  exact⟨J,by unfold ez;rw[if_neg (by rw[J];decide)]⟩
 have z:=Lib.hid (fun(h:bf t i)=>kq G h);obtain⟨a,c,rfl,_,_⟩:=Q.shape;obtain⟨av,nv,cv,rfl⟩:=SE.sl hv;obtain⟨ai,ni,ci,rfl⟩:=az hi;obtain⟨ax,nx,cx,rfl⟩:=az T.pub;obtain⟨ay,Z,cy,rfl⟩:=SE.sl T.step;generalize et t K i me own info p=TE at *;generalize ez t K i me own info p=TV at *;obtain⟨j,g⟩:∃ j,(w.alloc (.cells #[.slice ax nx cx,.slice ay Z cy] 27)).alloc (.cells #[.slice none 0 0,.slice none 0 0,.slice none 0 0,.slice none 0 0,.slice none 0 0] 47)=j:=⟨_,rfl⟩;have O:Hid (∀ W,Kp j W->Bx W (w.heap.size+1) 47 #[.slice none 0 0,.slice none 0 0,.slice none 0 0,.slice none 0 0,.slice none 0 0]):=λW E=>by
  refine Bx.kp ?_ E;have:=Bx.new (w.alloc (.cells #[.slice ax nx cx,.slice ay Z cy] 27)) 47 #[.slice none 0 0,.slice none 0 0,.slice none 0 0,.slice none 0 0,.slice none 0 0];rw[Jn] at this;rw[<-g];exact this
 have R:Hid (Kp w j):=by unfold Hid;rw[<-g];exact((Kp.refl _).alloc _).alloc _
 have M:=Lib.hid g;generalize U:t.length=N at *;clear Q G hv hi T z1 z2 z3 l g U;by_cases b:bf t i
 ·obtain rfl:i=me:=n.resolve_left λh=>h b
  obtain⟨k,rfl,_,d,_⟩:=z.out b;obtain⟨I,H⟩:=A.out b rfl;have P:=Lib.hid (Jb I H);clear u B A z b n I H;have f:=Lib.hid (s.out k d j R.out);clear s d;go_enter func23,ntmps23;go_wp2_with fail;rw[M.out];refine f.out.mono ?_;rintro _ w2 ⟨⟨ab,sv,rfl,m⟩,F⟩;obtain⟨an,nn,cn,rfl⟩:=m.nodes.sl;obtain⟨X,S,V,rfl⟩:=SE.sl m.steps;have L:Hid (Kp j (w2.alloc (.cells #[.slice a N c,.int .i64 (k:Int),.slice an nn cn,.slice X S V] 95))):=F.alloc _;have D:=Lib.hid (O.out _ L.out);have C:=Lib.hid (R.out.trans L.out);clear m F;go_wp2_with(refine fe rfl rfl 47 (.tmp 12) (.tmp 37) rfl (w.heap.size+1) 47 _ #[.slice none 0 0,.slice none 0 0,.slice none 0 0,.slice none 0 0,.slice none 0 0] rfl rfl D.out rfl iq dg ?_;intro wq r gq q)
  have o:=q w C.out (Mp _);refine bodyPost_ret (eV rfl _ _ (w.heap.size+1) _ _ (0,0) _ _ rfl r underlying47 rfl dg rfl) rfl ?_;rw[P.out.1,P.out.2];exact⟨⟨_,rfl,_,_,_,_,_,rfl,MIn.none _⟩,o⟩
 ·have P:=Lib.hid (B.out b)
  have f:=Lib.hid (u.out b j R.out);clear u B A z s b n;go_enter func23,ntmps23;go_wp2_with fail;rw[M.out];refine f.out.mono ?_;rintro _ w2 ⟨rfl,F⟩;have L:Hid (Kp j (w2.alloc (.cells #[.slice none 0 0,.int .i64 0,.slice none 0 0,.slice none 0 0] 95))):=F.alloc _;have D:=Lib.hid (O.out _ L.out);have C:=Lib.hid (R.out.trans L.out);clear F;go_wp2_with(refine fe rfl rfl 47 (.tmp 12) (.tmp 31) rfl (w.heap.size+1) 47 _ #[.slice none 0 0,.slice none 0 0,.slice none 0 0,.slice none 0 0,.slice none 0 0] rfl rfl D.out rfl iq dg ?_;intro wq r gq q)
  have o:=q w C.out (Mp _);refine bodyPost_ret (eV rfl _ _ (w.heap.size+1) _ _ (0,0) _ _ rfl r underlying47 rfl dg rfl) rfl ?_;rw[P.out.1,P.out.2];exact⟨⟨_,rfl,_,_,_,_,_,rfl,MIn.none _⟩,o⟩
end
theorem Iy (aa v f x y:Value)(t:List Nod)(K:Nat)(i me:Int)(own:List Sd)(info:List UInt8)(p:Pa)(w:World)(s:NL w aa t)(g:aD t K)(A:bk t K)(r:SL w v own)(d:Rd w f info)(z:PIn w x y p)
  (u:er t K me own) (o:info.length<=1400) (n:own.length<=99000) (q:∀ k j,(aM (aC p.step k).fors j).b.length<=1600)
  (l:∀ j,j<p.step.length->(aC p.step j).pub.length<=10000/\(aC p.step j).fors.length<=10000/\∀ k,k<(aC p.step j).fors.length->(aM (aC p.step j).fors k).half.length<=10000/\(aM (aC p.step j).fors k).b.length<=10000) (a:Tab w):
  Calls prog 23 #[aa,.int .i64 i,.int .i64 me,v,f,.agg #[x,y]] w λe w'=>(∃ v,e=.returned (.tuple #[v,.int .i64 (et t K i me own info p)])/\MV w' v (ez t K i me own info p))/\Kp w w':=by
 by_cases h:¬bf t i\/i=me
 ·exact Iw aa v f x y t K i me own info p w s g r d z a h
 ·rw[not_or,Kw] at h
  obtain⟨k,rfl,B,c,_⟩:=kq g h.1;obtain⟨m,rfl,_,_,_⟩:=kq g u.1;exact Iv aa v f x y t K k m own info p w s g A r d z c (λe=>h.2 (by rw[e])) u o n q l a
def zh:ByteArray:=⟨#[115,101,99,114,101,116]⟩
def aX (n:UInt8):List UInt8:=br [n] zh.data.toList
theorem jQ (n:UInt8):(aX n).length=32:=lH _ _
theorem IK (n:UInt8)(w:World):Calls prog 26 #[.int .u8 (n.toNat:Int)] w λe w'=>(∃ r,e=.returned r/\Rd w' r (aX n)/\ba w.heap.size r)/\Kp w w':=by
 have k:=Lib.hid (λW v (d:Rd W v [n])=>xm v zh [n] W d (by decide) (by simp));have l:Hid (Rd (w.alloc (.cells #[.int .u8 (n.toNat:Int)] 5)) (.slice (some ⟨w.heap.size,0,none⟩) 1 1) [n]):=(Ow.lit w 5 w.heap.size 1 #[.int .u8 (n.toNat:Int)] [n] (Ja _) rfl (by decide) rfl).rd;go_enter func26,ntmps26;go_wp2_with fail;refine(k.out _ _ l.out).mono ?_;rintro _ w2 ⟨⟨v,rfl,a,b⟩,c⟩;have h:=Lib.hid a;have i:Hid (ba w.heap.size v):=λg f=>by have:=b g f;simp at this;omega
 have j:Hid (Kp w w2):=((Kp.refl w).alloc _).trans c;clear a b c;go_wp2_with fail;go_ret;exact⟨⟨_,rfl,h.out,i.out⟩,j.out⟩
theorem IL (w:World)(ai:Tab w):Calls prog 9 #[] w λe w'=>e=.returned (.bool true)/\Kp w w':=by
 have h:=Lib.hid ai;clear ai;have N:(aJ (aX 1)).length=32:=ib _;have l2:(aJ (aX 2)).length=32:=ib _;obtain⟨f1,f2,f3,f4,f5,f6,f7,f8⟩:=wm (p1:=aJ (aX 1)) (p2:=aJ (aX 2));have V:=Di N l2;have hT:bk (dF (aJ (aX 1)) (aJ (aX 2))) 1:=V.tidy (Dj N l2);obtain⟨U,aT⟩:=Dk (p1:=aJ (aX 1)) (p2:=aJ (aX 2)) (jQ 2) rfl;have B:=Df (i:=0) (me:=1) (seed:=aX 3) (secret:=aX 4) [] V f1 (by decide) U (jQ 3) (jQ 4);have aq:=DM (t:=dF (aJ (aX 1)) (aJ (aX 2))) (K:=1) (i:=0) (secret:=aX 4) (aX 3) [] V (by decide) (jQ 4);have X:=ko (dF (aJ (aX 1)) (aJ (aX 2))) 1 0 (aX 3) (aX 4) [];rw[f5] at X;have Y:el (dF (aJ (aX 1)) (aJ (aX 2))) 0 (aX 3) (aX 4)=0:=by
  unfold el;rw[if_pos ⟨jQ 3,jQ 4⟩];unfold dM;rw[if_pos f7]
 have av:(eS (dF (aJ (aX 1)) (aJ (aX 2))) 1 0 (aX 3) (aX 4) []).path=bG (dF (aJ (aX 1)) (aJ (aX 2))) 1 0 (aX 3) (aX 4) []:=by unfold eS;rw[if_pos Y];rfl
 have aV:(eS (dF (aJ (aX 1)) (aJ (aX 2))) 1 0 (aX 3) (aX 4) []).last.length=32:=by unfold eS;rw[if_pos Y];exact jo (jQ 4) _
 have j:Hid (∀ (n:UInt8) W,Calls prog 26 #[.int .u8 (n.toNat:Int)] W λe w'=>(∃ r,e=.returned r/\Rd w' r (aX n))/\Kp W w'):=λn W=>(IK n W).mono λe w' ⟨⟨r,h1,h2,_⟩,k⟩=>⟨⟨r,h1,h2⟩,k⟩
 have aR:Hid (∀ (n:UInt8) W v,Rd W v (aX n)->Calls prog 33 #[v] W λe w'=>(∃ r,e=.returned r/\Rd w' r (aJ (aX n)))/\Kp W w'):=λn W v f=>by
  have:=Hn v (aX n) W f;rwa [(fk (jQ n)).2] at this
 have aj:Hid (∀ W v,Rd W v (aJ (aX 1))->Calls prog 37 #[.int .i64 1,v] W λe w'=>(∃ r,e=.returned (.tuple #[r,.int .i64 0])/\NL w' r [aH 1 (aJ (aX 1))])/\Kp W w'):=λW v f=>by
  have:=CR 1 v (aJ (aX 1)) W f;rwa [(rR N).1,(rR N).2] at this
 have ak:Hid (∀ W aa v,NL W aa [aH 1 (aJ (aX 1))]->Rd W v (aJ (aX 2))->Calls prog 38 #[aa,.int .i64 2,v] W λe w'=>(∃ r,e=.returned (.tuple #[r,.int .i64 1,.int .i64 0])/\NL w' r (dF (aJ (aX 1)) (aJ (aX 2))))/\Kp W w'):=λW aa v g f=>by
  have:=DA aa v [aH 1 (aJ (aX 1))] 0 2 (aJ (aX 2)) W g f (Dh N);rwa [(rS N l2).1,(rS N l2).2.1,(rS N l2).2.2] at this
 generalize bb:dF (aJ (aX 1)) (aJ (aX 2))=T at *;generalize aW:eS T 1 0 (aX 3) (aX 4) []=MD at *;generalize bc:bG T 1 0 (aX 3) (aX 4) []=m at *;have p:et T 1 0 1 [⟨2,aX 2⟩] [] m=0/\(ez T 1 0 1 [⟨2,aX 2⟩] [] m).tree=MD.tree/\(ez T 1 0 1 [⟨2,aX 2⟩] [] m).last=MD.last/\(ez T 1 0 1 [⟨2,aX 2⟩] [] m).path=m:=⟨B.1,B.2.2.1,B.2.2.2.1,B.2.2.2.2.trans av⟩;have a9:Hid (∀ W aa v1 v2,NL W aa T->Rd W v1 (aX 3)->Rd W v2 (aX 4)->Tab W->Calls prog 20 #[aa,.int .i64 0,v1,v2,.slice none 0 0] W λe w'=>(∃ v,e=.returned (.tuple #[v,.int .i64 0])/\MV w' v MD)/\Kp W w'):=λW aa v1 v2 g h1 h2 d=>by
  have:=za aa v1 v2 (.slice none 0 0) T 1 0 (aX 3) (aX 4) [] W g V hT h1 h2 (cL W) (by simp) d;rwa [Y,aW] at this
 obtain⟨TD,aw⟩:∃ TD,ez T 1 0 1 [⟨2,aX 2⟩] [] m=TD:=⟨_,rfl⟩;rw[aw] at p;have a1:Hid (∀ W aa v x y,NL W aa T->SL W v [⟨2,aX 2⟩]->PIn W x y m->Tab W->Calls prog 23 #[aa,.int .i64 0,.int .i64 1,v,.slice none 0 0,.agg #[x,y]] W λe w'=>(∃ v,e=.returned (.tuple #[v,.int .i64 0])/\MV w' v TD)/\Kp W w'):=λW aa v x y g f hp d=>by
  have:=Iy aa v (.slice none 0 0) x y T 1 0 1 [⟨2,aX 2⟩] [] m W g V hT f (cL W) hp U (by simp) (by simp) aq.1 aq.2 d;rwa [p.1,aw] at this
 have a8:Hid (∀ W aa,NL W aa T->Tab W->Calls prog 13 #[aa,.int .i64 1] W λe w'=>(∃ v,e=.returned (.tuple #[v,.int .i64 0])/\RN w' v [1])/\Kp W w'):=λW aa g d=>by
  have:=Gb aa T 1 1 W g V d;have e2:gG T 1 1=[1]:=by unfold gG;rw[if_pos f8];exact f4
  rwa [f6,e2] at this
 have a3:Hid (∀ W aa v,NL W aa MD.tree->NL W v MD.tree->Calls prog 28 #[aa,v] W λe w'=>e=.returned (.bool true)/\Kp W w'):=λW aa v g f=>by
  refine(wP aa v _ _ W g f).mono ?_;rintro _ w' ⟨⟨b,rfl,Z⟩,z⟩;rw[Z.2 rfl];exact⟨rfl,z⟩
 have a2:Hid (∀ W aa v l,Rd W aa l->Rd W v l->Calls prog 29 #[aa,v] W λe w'=>e=.returned (.bool true)/\W=w'):=λW aa v l g f=>by
  have:=jc aa v l l W g f;rwa [Jy rfl] at this
 have ba:Hid (∀ W aa v,RI W aa [1]->RI W v [1]->Calls prog 15 #[aa,v] W λe w'=>e=.returned (.bool true)/\Kp W w'):=λW aa v g f=>by
  have:=wN aa v [1] [1] W g f;rwa [Jy rfl] at this
 have hw:∀ k,k<[(⟨2,aX 2⟩:Sd)].length->-9223372036854775808<=(aO [(⟨2,aX 2⟩:Sd)] k).node/\(aO [(⟨2,aX 2⟩:Sd)] k).node<=9223372036854775807:=λk z=>by
  have:k=0:=by simp at z;omega
  subst this;exact⟨(show(-9223372036854775808:Int)<=2 by decide),(show(2:Int)<=9223372036854775807 by decide)⟩
 have a4:Hid (∀ W aa v,NL W aa T->SL W v [⟨2,aX 2⟩]->Tab W->Calls prog 16 #[aa,.int .i64 1,v] W λe w'=>e=.returned (.bool true)/\Kp W w'):=λW aa v g f d=>by
  refine(zf aa v T [⟨2,aX 2⟩] 1 1 W g f V (by simp) hw d).mono ?_;rintro _ w' ⟨⟨b,rfl,Z⟩,z⟩;rw[Z.2 U];exact⟨rfl,z⟩
 have a5:Hid (∀ W aa v,NL W aa T->SL W v [⟨2,aX 2⟩]->Tab W->Calls prog 16 #[aa,.int .i64 0,v] W λe w'=>e=.returned (.bool false)/\Kp W w'):=λW aa v g f d=>by
  refine(zf aa v T [⟨2,aX 2⟩] 1 0 W g f V (by simp) hw d).mono ?_;rintro _ w' ⟨⟨b,rfl,Z⟩,z⟩;cases b
  ·exact⟨rfl,z⟩
  ·exact absurd (Z.1 rfl) aT
 have a6:Hid (∀ W x y x' y',PIn W x y m->PIn W x' y' m->Calls prog 18 #[.agg #[x,y],.agg #[x',y']] W λe w'=>e=.returned (.bool true)/\Kp W w'):=λW x y x' y' h1 h2=>by
  refine(zg x y x' y' m m W h1 h2).mono ?_;rintro _ w' ⟨⟨b,rfl,Z⟩,z⟩;rw[Z.2 rfl];exact⟨rfl,z⟩
 have c:m.step.length=1:=X.1;have a7:Hid (∀ W x y,PIn W x y m->Calls prog 18 #[.agg #[x,y],.agg #[.slice none 0 0,.slice none 0 0]] W λe w'=>e=.returned (.bool false)/\Kp W w'):=λW x y h1=>by
  refine(zg x y _ _ m ⟨[],[]⟩ W h1 ⟨cL W,aL.nil W⟩).mono ?_;rintro _ w' ⟨⟨b,rfl,Z⟩,z⟩;cases b
  ·exact⟨rfl,z⟩
  ·have:=Z.1 rfl
   rw[this] at c;cases c
 have A:(aC m.step 0).fors.length=1:=(X.2.2 0 (by decide)).1;have M:=Lib.hid (Jb c (Jb A (Jb aV (Jb av p))));clear f1 f2 f3 f4 f5 f6 f7 f8 V hT U aT B aq X Y av aV N l2 p hw c A bb aW bc aw;have n1:=j.out 1;have n2:=j.out 2;have n3:=j.out 3;have n4:=j.out 4;rw[show(((1:UInt8).toNat:Nat):Int)=1 from rfl] at n1;rw[show(((2:UInt8).toNat:Nat):Int)=2 from rfl] at n2;rw[show(((3:UInt8).toNat:Nat):Int)=3 from rfl] at n3;rw[show(((4:UInt8).toNat:Nat):Int)=4 from rfl] at n4;have N1:=Lib.hid n1;have N2:=Lib.hid n2;have N3:=Lib.hid n3;have N4:=Lib.hid n4;clear n1 n2 n3 n4 j;go_enter func9,ntmps9;go_wp2_with fail;refine(N1.out w).mono ?_;rintro _ w1 ⟨⟨r1,rfl,s1⟩,k1⟩;have R1:=Lib.hid s1;have K1:=Lib.hid k1;clear s1 k1 N1;go_wp2_with fail;refine(aR.out 1 w1 _ R1.out).mono ?_;rintro _ w2 ⟨⟨r2,rfl,s2⟩,k2⟩;have R2:=Lib.hid s2;have K2:=Lib.hid (K1.out.trans k2);clear s2 k2 R1 K1;go_wp2_with fail;refine(aj.out w2 _ R2.out).mono ?_;rintro _ w3 ⟨⟨r3,rfl,s3⟩,k3⟩;have U3:=Lib.hid s3;have K3:=Lib.hid (K2.out.trans k3);clear s3 k3 R2 K2 aj;go_wp2_with fail;refine(N2.out w3).mono ?_;rintro _ w4 ⟨⟨r4,rfl,s4⟩,k4⟩;have R4:=Lib.hid s4;have U4:=Lib.hid (U3.out.kp k4);have K4:=Lib.hid (K3.out.trans k4);clear s4 k4 U3 K3;go_wp2_with fail;refine(aR.out 2 w4 _ R4.out).mono ?_;rintro _ w5 ⟨⟨r5,rfl,s5⟩,k5⟩;have R5:=Lib.hid s5;have U5:=Lib.hid (U4.out.kp k5);have K5:=Lib.hid (K4.out.trans k5);clear s5 k5 U4 K4 R4 aR;go_wp2_with fail;refine(ak.out w5 _ _ U5.out R5.out).mono ?_;rintro _ w6 ⟨⟨r6,rfl,s6⟩,k6⟩;have T6:=Lib.hid s6;have K6:=Lib.hid (K5.out.trans k6);clear s6 k6 U5 R5 K5 ak;go_wp2_with fail;refine(N3.out w6).mono ?_;rintro _ w7 ⟨⟨r7,rfl,s7⟩,k7⟩;have R7:=Lib.hid s7;have T7:=Lib.hid (T6.out.kp k7);have K7:=Lib.hid (K6.out.trans k7);clear s7 k7 T6 K6 N3;go_wp2_with fail;refine(N4.out w7).mono ?_;rintro _ w8 ⟨⟨r8,rfl,s8⟩,k8⟩;have R8:=Lib.hid s8;have a0:=Lib.hid (R7.out.kp k8);have T8:=Lib.hid (T7.out.kp k8);have K8:=Lib.hid (K7.out.trans k8);clear s8 k8 T7 K7 R7 N4;go_wp2_with fail;refine(a9.out w8 _ _ _ T8.out a0.out R8.out (h.out.kp K8.out)).mono ?_;rintro _ o ⟨⟨v9,rfl,au⟩,k9⟩;obtain⟨mt,mo,mx,my,ml,rfl,a⟩:=au;obtain⟨ab,nt,ct,rfl⟩:=a.tree.sl;obtain⟨ao,no,co,rfl⟩:=SE.sl a.own;obtain⟨ax,nx,cx,rfl⟩:=az a.path.pub;obtain⟨ay,cy,rfl,_,_⟩:=SE.shape a.path.step;obtain⟨al,cl,rfl,_,_⟩:=a.last.shape;have s:=a.path;rw[M.out.2.2.2.1] at s a;rw[M.out.2.2.2.1];rw[M.out.2.2.1] at a;rw[M.out.2.2.1];obtain⟨gs,os,cs,pv,qv,es,_,ar⟩:=eo.nodeK (i:=0) s.step (by rw[M.out.1];decide);rw[M.out.1] at s a es;rw[M.out.1];simp only[Ji] at es;obtain⟨rfl,_,rfl⟩:=es;have MI:=Lib.hid a;have PP:=Lib.hid s;have T9:=Lib.hid (T8.out.kp k9);have K9:=Lib.hid (K8.out.trans k9);have H:=Lib.hid ar;obtain⟨_,_,_,aU⟩:=ar o (Kp.refl _);obtain⟨af,cf,rfl,_,_⟩:=SE.shape aU;rw[M.out.2.1] at H;clear s a k9 T8 K8 a0 R8 a9 ar aU;obtain⟨wA,R⟩:∃ x,o.alloc (.cells #[.slice ab nt ct,.slice ao no co,.slice ax nx cx,.slice (some ⟨gs,os,none⟩) 1 cy,.slice al 32 cl] 47)=x:=⟨_,rfl⟩;have J:Hid (Bx wA o.heap.size 47 #[.slice ab nt ct,.slice ao no co,.slice ax nx cx,.slice (some ⟨gs,os,none⟩) 1 cy,.slice al 32 cl]):=by unfold Hid;rw[<-R];exact Bx.new o _ _
 have KA:Hid (Kp o wA):=by unfold Hid;rw[<-R];exact(Kp.refl _).alloc _
 have ah:Hid (∀ W,Kp wA W->W.cell? ⟨o.heap.size,0,none⟩=some (.slice ab nt ct)/\W.cell? ⟨o.heap.size,2,none⟩=some (.slice ax nx cx)/\W.cell? ⟨o.heap.size,3,none⟩=some (.slice (some ⟨gs,os,none⟩) 1 cy)/\W.cell? ⟨o.heap.size,4,none⟩=some (.slice al 32 cl)):=λW L=>⟨(J.out.kp L).cell 0,(J.out.kp L).cell 2,(J.out.kp L).cell 3,(J.out.kp L).cell 4⟩
 obtain⟨F,E,D,C⟩:=ah.out wA (Kp.refl _);obtain⟨_,d1,_,_⟩:=H.out wA KA.out;simp only[Nat.zero_mul,Lr] at d1;go_wp2_with fail;try rw[R]
 clear R;refine(N2.out wA).mono ?_;rintro _ wB ⟨⟨rB,rfl,sB⟩,kB⟩;obtain⟨aB,nB,cB,rfl⟩:=az sB;have RB:=Lib.hid sB;have KB:=Lib.hid kB;clear sB kB F E D C d1 N2 H;have q:Hid (SL (wB.alloc (.cells #[.int .i64 2,.slice aB nB cB] 90)) (.slice (some ⟨wB.heap.size,0,none⟩) 1 1) [⟨2,aX 2⟩]):=
  SE.lit1 (S:=bY) (w:=wB) (vs:=[.int .i64 2,.slice aB nB cB]) (x:=⟨2,aX 2⟩) (cs:=#[.int .i64 2,.slice aB nB cB]) 90 ⟨_,rfl,RB.out,bq.none _⟩ rfl
 obtain⟨wC,Q⟩:∃ x,wB.alloc (.cells #[.int .i64 2,.slice aB nB cB] 90)=x:=⟨_,rfl⟩;rw[Q] at q;have KC:Hid (Kp wA wC):=by unfold Hid;rw[<-Q];exact KB.out.alloc _
 have ae:Hid (Kp o wC):=KA.out.trans KC.out;obtain⟨F,E,D,C⟩:=ah.out wC KC.out;go_wp2_with fail;try rw[Q]
 clear Q;refine(a1.out wC _ _ _ _ (T9.out.kp ae.out) q.out (PP.out.kp ae.out) (h.out.kp (K9.out.trans ae.out))).mono ?_;rintro _ wD ⟨⟨vD,rfl,au⟩,kD⟩;obtain⟨mt,mo,mx,my,ml,rfl,a⟩:=au;obtain⟨aM,ap,aE,rfl⟩:=a.tree.sl;obtain⟨aZ,aS,aY,rfl⟩:=SE.sl a.own;obtain⟨aK,an,aD,rfl⟩:=az a.path.pub;obtain⟨aI,am,aA,rfl⟩:=SE.sl a.path.step;obtain⟨aN,aG,rfl,_,_⟩:=a.last.shape;obtain⟨g1,g2,g3,g4⟩:=M.out.2.2.2.2;have u:TD.last.length=32:=by rw[g3];exact M.out.2.2.1
 have q1:=a.tree;have q2:=a.last;have q3:=a.path;rw[g2] at q1;rw[u] at q2;rw[g3] at q2;rw[g4] at q3;rw[u];have Q1:=Lib.hid q1;have Q2:=Lib.hid q2;have Q3:=Lib.hid q3;have KD:=Lib.hid (KC.out.trans kD);have LD:=Lib.hid (q.out.kp kD);clear q1 q2 q3 g1 g2 g3 g4 a kD F E D C u q KB RB a1 ae KC;obtain⟨wE,P⟩:∃ x,wD.alloc (.cells #[.slice aM ap aE,.slice aZ aS aY,.slice aK an aD,.slice aI am aA,.slice aN 32 aG] 47)=x:=⟨_,rfl⟩;have I:Hid (Bx wE wD.heap.size 47 #[.slice aM ap aE,.slice aZ aS aY,.slice aK an aD,.slice aI am aA,.slice aN 32 aG]):=by unfold Hid;rw[<-P];exact Bx.new wD _ _
 have KE:Hid (Kp wD wE):=by unfold Hid;rw[<-P];exact(Kp.refl _).alloc _
 have ag:Hid (∀ W,Kp wE W->(W.cell? ⟨o.heap.size,0,none⟩=some (.slice ab nt ct)/\W.cell? ⟨o.heap.size,2,none⟩=some (.slice ax nx cx)/\W.cell? ⟨o.heap.size,3,none⟩=some (.slice (some ⟨gs,os,none⟩) 1 cy)/\W.cell? ⟨o.heap.size,4,none⟩=some (.slice al 32 cl))/\W.cell? ⟨wD.heap.size,0,none⟩=some (.slice aM ap aE)/\W.cell? ⟨wD.heap.size,2,none⟩=some (.slice aK an aD)/\W.cell? ⟨wD.heap.size,3,none⟩=some (.slice aI am aA)/\W.cell? ⟨wD.heap.size,4,none⟩=some (.slice aN 32 aG)):=λW L=>⟨ah.out W (KD.out.trans (KE.out.trans L)),(I.out.kp L).cell 0,(I.out.kp L).cell 2,(I.out.kp L).cell 3,(I.out.kp L).cell 4⟩
 have G:=Lib.hid (KA.out.trans (KD.out.trans KE.out));have TE:=Lib.hid (T9.out.kp G.out);have ad:=Lib.hid (K9.out.trans G.out);have LE:=Lib.hid (LD.out.kp KE.out);have M1:=Lib.hid (MI.out.tree.kp G.out);have M2:=Lib.hid (MI.out.last.kp G.out);have M3:=Lib.hid (PP.out.kp G.out);have P1:=Lib.hid (Q1.out.kp KE.out);have P2:=Lib.hid (Q2.out.kp KE.out);have P3:=Lib.hid (Q3.out.kp KE.out);clear MI PP T9 LD J I KD Q1 Q2 Q3 ah;go_wp2_with fail;try rw[P]
 clear P;refine(a8.out wE _ TE.out (h.out.kp ad.out)).mono ?_;rintro _ wF ⟨⟨vF,rfl,sF⟩,kF⟩;obtain⟨aF,nF,cF,rfl⟩:=sF.sl;have RF:=Lib.hid sF.ri;have KF:=Lib.hid kF;obtain⟨⟨F,E,D,C⟩,e0,e2,e3,e4⟩:=ag.out wF kF;clear sF kF a8;go_wp2_with fail;refine(a3.out wF _ _ (M1.out.kp KF.out) (P1.out.kp KF.out)).mono ?_;rintro _ wG ⟨rfl,kG⟩;have KG:=Lib.hid (KF.out.trans kG);have RG:=Lib.hid (RI.kp RF.out kG);clear F E D C e0 e2 e3 e4 kG RF KF a3;obtain⟨⟨F,E,D,C⟩,e0,e2,e3,e4⟩:=ag.out wG KG.out;go_wp2_with fail;refine(a2.out wG _ _ _ (M2.out.kp KG.out) (P2.out.kp KG.out)).mono ?_;rintro _ _ ⟨rfl,rfl⟩;have aQ:Hid (RI (wG.alloc (.cells #[.int .i64 1] 3)) (.slice (some ⟨wG.heap.size,0,none⟩) 1 1) [1]):=(ON.lit1 wG 3 1).ri;obtain⟨wH,O⟩:∃ x,wG.alloc (.cells #[.int .i64 1] 3)=x:=⟨_,rfl⟩;rw[O] at aQ;have aP:Hid (Kp wG wH):=by unfold Hid;rw[<-O];exact(Kp.refl _).alloc _
 have KH:=Lib.hid (KG.out.trans aP.out);go_wp2_with fail;try rw[O]
 clear O;refine(ba.out wH _ _ (RI.kp RG.out aP.out) aQ.out).mono ?_;rintro _ wI ⟨rfl,kI⟩;have KI:=Lib.hid (KH.out.trans kI);clear kI F E D C e0 e2 e3 e4 KG KH aP RG aQ ba a2;go_wp2_with fail;refine(a4.out wI _ _ (TE.out.kp KI.out) (aL.kp LE.out KI.out) (h.out.kp (ad.out.trans KI.out))).mono ?_;rintro _ wJ ⟨rfl,kJ⟩;have KJ:=Lib.hid (KI.out.trans kJ);clear kJ KI a4;go_wp2_with fail;refine(a5.out wJ _ _ (TE.out.kp KJ.out) (aL.kp LE.out KJ.out) (h.out.kp (ad.out.trans KJ.out))).mono ?_;rintro _ wK ⟨rfl,kK⟩;have KK:=Lib.hid (KJ.out.trans kK);clear kK KJ a5;obtain⟨⟨F,E,D,C⟩,e0,e2,e3,e4⟩:=ag.out wK KK.out;go_wp2_with fail;refine(a6.out wK _ _ _ _ (M3.out.kp KK.out) (P3.out.kp KK.out)).mono ?_;rintro _ wL ⟨rfl,kL⟩;have KL:=Lib.hid (KK.out.trans kL);clear kL KK a6 F E D C e0 e2 e3 e4;obtain⟨⟨F,E,D,C⟩,e0,e2,e3,e4⟩:=ag.out wL KL.out;go_wp2_with fail;refine(a7.out wL _ _ (M3.out.kp KL.out)).mono ?_;rintro _ wM ⟨rfl,kM⟩;have bd:=Lib.hid (ad.out.trans (KL.out.trans kM));clear kM KL a7 F E D C e0 e2 e3 e4;go_wp2_with fail;go_ret;exact⟨rfl,bd.out⟩
theorem IM (aa g f d:Value)(t:List Nod)(K:Nat)(i:Int)(seed secret info:List UInt8)(w:World)(n:NL w aa t)(l:aD t K)(s:bk t K)(q:Rd w g seed)(p:Rd w f secret)(o:Rd w d info)(m:info.length<=1400):
  Calls prog 21 #[aa,.int .i64 i,g,f,d] w λe w'=>(∃ v,e=.returned (.tuple #[v,.int .i64 (el t i seed secret)])/\MV w' v (eS t K i seed secret info))/\Kp w w':=by
 by_cases h:el t i seed secret=0
 ·have c:=h
  unfold el at c;by_cases j:seed.length=32/\secret.length=32
  ·rw[if_pos j] at c
   unfold dM at c;have a:bf t i:=by
    by_cases a:bf t i
    ·exact a
    ·rw[if_neg a] at c;cases c
   obtain⟨k,rfl,u,b,r⟩:=kq l a;unfold eS;rw[if_pos h,h,Jm];exact Hx aa g f d t K k seed secret info w n l s q p o b j.1 j.2 m
  ·rw[if_neg j] at c
   cases c
 ·unfold eS
  rw[if_neg h];exact Hw aa g f d t K i seed secret info w n l q p o h
theorem IO (h:gS t 40/\fQ t):∃ K,aD t K/\bk t K:=by
 obtain⟨b,K,a⟩:=h;exact⟨K,a,a.tidy b⟩
theorem IP (A v1 v2 v3:Value)(t:List Nod)(i:Int)(seed first info:List UInt8)(w:World)(B:NL w A t)(h1:Rd w v1 seed)(h2:Rd w v2 first)(h3:Rd w v3 info)(n:Tab w):
  Calls prog 4 #[.agg #[A,.int .i64 i,v1,v2,v3]] w (Yes w):=by
 have p:=Lib.hid n;clear n;have Y:=Lib.hid (λW (e:Kp w W)=>IL W (p.out.kp e));have q:=Lib.hid (λW (e:Kp w W)=>DD A t 40 W (B.kp e) (by omega));have HA:=Lib.hid (λW (e:Kp w W) K (u:aD t K) (z:bk t K) (hl:info.length<=50)=>za A v1 v2 v3 t K i seed first info W (B.kp e) u z (h1.kp e) (h2.kp e) (h3.kp e) (by omega) (p.out.kp e));have HB:=Lib.hid (λW (e:Kp w W) K (u:aD t K) (z:bk t K) (hl:info.length<=50)=>IM A v1 v2 v3 t K i seed first info W (B.kp e) u z (h1.kp e) (h2.kp e) (h3.kp e) (by omega));have ae:=Lib.hid (λW (t o x y l t' o' x' y' l':Value) (m:Md) (hm:MIn W t o x y l m) (hn:MIn W t' o' x' y' l' m)=>Hv t o x y l t' o' x' y' l' m m W hm hn);obtain⟨a,c,rfl,p1,s1⟩:=B.shape;obtain⟨a1,c1,rfl,_,_⟩:=h1.shape;obtain⟨a2,c2,rfl,_,_⟩:=h2.shape;obtain⟨a3,c3,rfl,_,_⟩:=h3.shape;generalize el t i seed first=E1 at *
 generalize t.length=N at *;generalize seed.length=N1 at *;generalize first.length=N2 at *
 generalize info.length=N3 at *;clear B h1 h2 h3 p1 s1;go_enter func4,ntmps4;go_wp2_with fail;have d:Hid (Kp w (w.alloc (.cells #[.slice a N c,.int .i64 i,.slice a1 N1 c1,.slice a2 N2 c2,.slice a3 N3 c3] 45))):=(Kp.refl w).alloc _;refine(Y.out _ d.out).mono ?_;rintro _ w0 ⟨rfl,k0⟩;have d:=Lib.hid (d.out.trans k0);clear k0 Y;go_wp2_with fail;refine(q.out _ d.out).mono ?_;rintro _ w1 ⟨⟨bA,rfl,hA⟩,k1⟩;have d:=Lib.hid (d.out.trans k1);clear k1 q;cases bA
 ·clear hA
  go_wp2_with fail;go_ret;exact⟨rfl,d.out⟩
 ·obtain⟨K,u,z⟩:=IO (hA.1 rfl)
  have k:=Lib.hid (Jb u z);clear hA u z;by_cases q1:N1<=40
  ·have i1:¬(40:Int)<(N1:Int):=by omega
   by_cases q2:N2<=40
   ·have i2:¬(40:Int)<(N2:Int):=by omega
    by_cases q3:N3<=50
    ·have i3:¬(50:Int)<(N3:Int):=by omega
     have aa:=Lib.hid (λW e=>HA.out W e K k.out.1 k.out.2 q3);have Z:=Lib.hid (λW e=>HB.out W e K k.out.1 k.out.2 q3);clear HA HB;generalize eS t K i seed first info=ab at *
     go_wp2_with fail;refine(aa.out _ d.out).mono ?_;rintro _ w2 ⟨⟨v,rfl,t1,o1,x1,y1,l1,rfl,s⟩,k2⟩;have d:=Lib.hid (d.out.trans k2);have M1:=Lib.hid s;obtain⟨b1,e1,g1,rfl⟩:=s.tree.sl;obtain⟨b2,e2,g2,rfl⟩:=SE.sl s.own;obtain⟨b3,e3,g3,rfl⟩:=az s.path.pub;obtain⟨b4,e4,g4,rfl⟩:=SE.sl s.path.step;obtain⟨b5,e5,g5,rfl⟩:=az s.last;obtain⟨w3,j⟩:∃ x,w2.alloc (.cells #[.slice b1 e1 g1,.slice b2 e2 g2,.slice b3 e3 g3,.slice b4 e4 g4,.slice b5 e5 g5] 47)=x:=⟨_,rfl⟩;have af:Hid (Bx w3 w2.heap.size 47 #[.slice b1 e1 g1,.slice b2 e2 g2,.slice b3 e3 g3,.slice b4 e4 g4,.slice b5 e5 g5]):=by unfold Hid;rw[<-j];exact Bx.new w2 _ _
     have K3:Hid (Kp w2 w3):=by unfold Hid;rw[<-j];exact(Kp.refl _).alloc _
     have d:=Lib.hid (d.out.trans K3.out);clear k2 s aa;go_wp2_with fail;try rw[j]
     clear j;refine(Z.out _ d.out).mono ?_;rintro _ w4 ⟨⟨v',rfl,ai,aj,ah,ag,ak,rfl,r⟩,k4⟩;have d:=Lib.hid (d.out.trans k4);have K4:=Lib.hid (K3.out.trans k4);have ad:=Lib.hid k4;obtain⟨S,M,G,rfl⟩:=r.tree.sl;obtain⟨R,L,F,rfl⟩:=SE.sl r.own;obtain⟨Q,J,E,rfl⟩:=az r.path.pub;obtain⟨P,I,D,rfl⟩:=SE.sl r.path.step;obtain⟨O,H,C,rfl⟩:=az r.last;have M2:=Lib.hid r;obtain⟨w5,h⟩:∃ x,w4.alloc (.cells #[.slice S M G,.slice R L F,.slice Q J E,.slice P I D,.slice O H C] 47)=x:=⟨_,rfl⟩;have g:Hid (Bx w5 w4.heap.size 47 #[.slice S M G,.slice R L F,.slice Q J E,.slice P I D,.slice O H C]):=by unfold Hid;rw[<-h];exact Bx.new w4 _ _
     have K5:Hid (Kp w4 w5):=by unfold Hid;rw[<-h];exact(Kp.refl _).alloc _
     have d:=Lib.hid (d.out.trans K5.out);have f:=af.out.kp (ad.out.trans K5.out);obtain⟨a0,X,V,U,T⟩:_/\_/\_/\_/\_:=⟨f.cell 0,f.cell 1,f.cell 2,f.cell 3,f.cell 4⟩;obtain⟨d0,d1,d2,d3,d4⟩:_/\_/\_/\_/\_:=⟨g.out.cell 0,g.out.cell 1,g.out.cell 2,g.out.cell 3,g.out.cell 4⟩;simp only[Jj,Jg,Jk] at a0 X V U T d0 d1 d2 d3 d4;have al:(E1==E1)=true:=beq_self_eq_true _;clear k4 r Z f;go_wp2_with fail;try rw[h]
     clear h;refine(ae.out _ _ _ _ _ _ _ _ _ _ _ ab (M1.out.kp (K4.out.trans K5.out)) (M2.out.kp K5.out)).mono ?_;rintro _ w6 ⟨⟨b,rfl,hb⟩,k6⟩;obtain rfl:=hb.2 (by first|rfl|trivial);have d:=Lib.hid (d.out.trans k6);clear hb k6 a0 X V U T d0 d1 d2 d3 d4;go_wp2_with fail;go_ret;exact⟨by simp,d.out⟩
    ·have i3:(50:Int)<(N3:Int):=by omega
     go_wp2_with fail;go_ret;exact⟨rfl,d.out⟩
   ·have i2:(40:Int)<(N2:Int):=by omega
    go_wp2_with fail;go_ret;exact⟨rfl,d.out⟩
  ·have i1:(40:Int)<(N1:Int):=by omega
   go_wp2_with fail;go_ret;exact⟨rfl,d.out⟩

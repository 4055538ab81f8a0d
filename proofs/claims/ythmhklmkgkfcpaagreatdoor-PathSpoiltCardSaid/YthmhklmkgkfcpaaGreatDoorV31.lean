import Derived.Test.YthmhklmkgkfcpaaGreatDoorV30
set_option linter.all false
set_option maxHeartbeats 8000000
set_option maxRecDepth 100000
namespace Go.Proofs.YthmhklmkgkfcpaaGreatDoor
open Go.Maps Go.Proofs.Tryz Go.RowKit
theorem az.pub32 {t:List Nod}{K:Nat}(h:az t K){x:Nat}(a:(ats t x).kind≠0):(ats t x).pub.length=32:=by
 rcases h.okA x with e|⟨_,b,_⟩
 ·rw[e] at a;exact absurd rfl a
 ·exact b.2.2
theorem dC.over {w w':World}{gc a n:Nat}{s:List UInt8}{Y:Nat->Prop}(h:dC w gc a s n)(b:aj Y w w')(j:∀ g,Y g->bS w g)(i:¬Y gc)(f:¬Y a):dC w' gc a s n:=by
 obtain⟨e,⟨v,d,c⟩,k⟩:=h;exact⟨(b.block gc (Iz.1 e).1 i).trans e,⟨v,(b.block a (Iz.1 d).1 f).trans d,c.1.step8 b j,c.2⟩,k⟩
structure nG (wb:World)(Y:Nat->Prop)(gm gc gs gP:Nat)(pv rowv:Value)(S:Sd->Prop)(secret:List UInt8)(n:Nat)(l:List St)(j:Nat)(w:World):Prop where
 mk ::
 km:bM prog 3 (λg=>some g=rowv.ownBlock) w gm (1+j) S
 once:dC w gc gs secret n
 box:Bx w gP 27 #[pv,rowv]
 row:GZ bJ 74 (λg=>g<wb.heap.size) w wb.heap.size rowv l
 step:aj Y wb w
theorem Ha (aa v1 v2 v3:Value)(t:List Nod)(K i:Nat)(seed secret info:List UInt8)(w:World)(hu:NL w aa t)(hr:az t K)(hT:bq t K)(h1:Rd w v1 seed)(h2:Rd w v2 secret)(h3:Rd w v3 info)(F:(ats t (2*i)).kind=1)
  (q1:seed.length=32) (q2:secret.length=32) (cm:info.length<=1400) (aM:Tab w):
  Calls prog 20 #[aa,.int .i64 (i:Int),v1,v2,v3] w λe w'=>(∃ v,e=.returned (.tuple #[v,.int .i64 0])/\MV w' v ⟨du t (i:Int) (aw t i K) (aQ t K i seed secret info),dH [⟨2*(i:Int),seed⟩] secret (aw t i K),aQ t K i seed secret info,fF secret (ixS t i K).length⟩)/\Kp w w':=by
 obtain⟨z1,z2,z3⟩:=hr.small;have em:=bY hr.le;have c7:=az.lt_of (t:=t) (x:=2*i) (by rw[F];decide);have hi:i<2 ^ K:=by omega
 have ad:=(hr.there_iff i).2 F;have dp:(ixS t i K).length<=10:=IU (jm t i K) hr.le;obtain⟨cg,ab⟩:=dR t i K;have dM:=Lib.hid (λW (b:Kp w W)=>pH aa t K i W (hu.kp b) hr F (aM.kp b));have dW:=Lib.hid (λW (aa:Value) (s:List UInt8) (E:Rd W aa s)=>xJ aa s W E);have ef:=Lib.hid (λW (v:Value) (hv:SL W v [⟨2*(i:Int),seed⟩])=>sk v [⟨2*(i:Int),seed⟩] W hv (Kr _ _) (by simp) (λk hk=>by
  have:k=0:=by simp at hk;omega
  subst this;show -9223372036854775808<=2*(i:Int)/\2*(i:Int)<=9223372036854775807
  omega))
 have cK:=Lib.hid (λW (b:Kp w W)=>yo v2 secret (ixS t i K).length W (h2.kp b) q2 (by omega));have dY:=Lib.hid (λW (b:Kp w W)=>GS v2 secret W (h2.kp b));have bu:=Lib.hid (fun(w0 W:World) (uu n s q vs:Value) (j m gc gs:Nat) (x:Int) (d:j<(ixS t i K).length) (h0:Kp w0 W) (hw:Kp w w0) (hu:WIn w0 uu n s t K i) (hq:RI w0 q ((aT t i K).getD j [])) (E:RZ (λg=>g=gc) W vs (aV secret j)) (ho:dC W gc gs secret m) (ev:w0.heap.size<=gc) (hm:m<=100000)=>
  GU uu n s q vs v3 t K i ((aT t i K).getD j []) x (aV secret j) info secret m gc gs w0 W h0 hu hq E (h3.kp hw) ho ev (λa ha=>by
   obtain⟨_,f2⟩:=mW (a:=j) hr hi (by rw[ab];exact d);obtain⟨y,y1,y2,y3⟩:=f2 a ha;exact⟨y,y1,y2,hr.pub32 y3⟩) (mW (a:=j) hr hi (by rw[ab];exact d)).1 hm q2 (by rw[iq q2];omega) cm)
 have eT:Hid (nS (aT t i K) 0=0):=rfl;have bD:=Lib.hid (λj (h:j<(ixS t i K).length)=>vM (who:=aT t i K) (k:=j) (by rw[ab];exact h));have bE:Hid (∀ j,j<=(ixS t i K).length->nS (aT t i K) j<=20480):=λj d=>by
  have:=vN (who:=aT t i K) (M:=2048) (λk hk=>(mW (a:=k) hr hi hk).1) j (by rw[ab];exact d);omega
 have bF:=Lib.hid (λj (h:j<(ixS t i K).length)=>DC (t:=t) (secret:=secret) (info:=info) (who:=aT t i K) (k:=j) (by rw[ab];exact h));have d3:Hid ((makeS t secret info secret 0 (aT t i K)).length=(ixS t i K).length):=by unfold Hid;rw[oY,ab]
 have ci:(aw t i K).Nodup:=jq t i K;have ct:∀ a,a∈[(⟨2*(i:Int),seed⟩:Sd)]->∀ z∈aw t i K,a.node≠(z:Int):=λa ha z hz=>by
  rw[JR] at ha;subst ha;have:=eO (dQ hz);show 2*(i:Int)≠_
  omega
 have bx:=Lib.hid (λj (h:j<(ixS t i K).length) (z:Sd)=>xY (own:=λy=>y∈[(⟨2*(i:Int),seed⟩:Sd)]) (s:=secret) (n:=j) ci ct (by rw[cg];exact h) z);have eM:=Lib.hid (λz=>xX (own:=λy=>y∈[(⟨2*(i:Int),seed⟩:Sd)]) (s:=secret) (xs:=aw t i K) z);have av:Hid (∀ r:List Sd,srt r->(∀ y,y∈r↔fd (λy=>y∈[(⟨2*(i:Int),seed⟩:Sd)]) secret (aw t i K) (ixS t i K).length y)->r=dH [⟨2*(i:Int),seed⟩] secret (aw t i K)):=λr hr hm=>
  xZ ci (Kr _ _) ct hr (by rw[cg];exact hm)
 have bA:=Lib.hid (λa (h:a<(ixS t i K).length)=>jU (t:=t) (i:=i) (m:=K) h);have aR:Hid (∀ j,j<(ixS t i K).length->(aw t i K).getD j 0<=100000):=λj d=>by
  have hm:(aw t i K).getD j 0∈aw t i K:=by rw[Iw,Iy (by omega)];exact Jg _
  have:=ec hi (dQ hm);have hl:=hr.len;omega
 have ax:Hid (∀ j,j<=(ixS t i K).length->∀ s,fd (λy=>y∈[(⟨2*(i:Int),seed⟩:Sd)]) secret (aw t i K) j s->(-9223372036854775808<=s.node/\s.node<=9223372036854775807)/\s.seed.length<=2000):=λj d s E=>by
  rcases E with E|⟨a,ha,rfl⟩
  ·rw[JR] at E
   subst E;refine⟨⟨?_,?_⟩,?_⟩
   ·show _<=2*(i:Int);omega
   ·show 2*(i:Int)<=_;omega
   ·show seed.length<=_;omega
  ·have:=aR.out a (by omega)
   refine⟨⟨?_,?_⟩,?_⟩
   ·show _<=(((aw t i K).getD a 0:Nat):Int);omega
   ·show(((aw t i K).getD a 0:Nat):Int)<=_;omega
   ·show(bf secret a).length<=_;unfold bf;rw[jM];omega
 have ea:Hid (PIn w v1 v2 ⟨[],[]⟩->True):=λ_=>trivial
 have cN:=Lib.hid (λW (b:Kp w W) (n s x y:Value) (am:WIn W aa n s t K i) (hp:PIn W x y (aQ t K i seed secret info))=>by
  have aK:=ir t K i seed secret info;exact yg aa n s x y t K i (aQ t K i seed secret info) W am hr hT F hp aK.2.1 (by rw[aK.1,ab]) (λa ha=>(aK.2.2 a (by omega)).2) (aM.kp b))
 have d2:Hid (aQ t K i seed secret info=⟨dE seed,makeS t secret info secret 0 (aT t i K)⟩):=by unfold Hid aQ;rw[(eZ q1).2]
 have bK:=Lib.hid (λj (h:j<(ixS t i K).length)=>ru secret h);have bI:=Lib.hid (jr secret (ixS t i K).length);have dO:=Lib.hid (λW (x:Int) (q v:Value) (c:List Int) j (hq:RI W q c) (hv:Rd W v (aV secret j))=>yi x q v c (aV secret j) W hq hv (by rw[iq q2 j];omega));have eL:Hid (∀ j,bQ (aV secret j) fC=bf secret j):=λj=>rfl
 simp only[eL.out] at dO;have bC:=Lib.hid (λW gm j (d:j<=(ixS t i K).length) (h:KM prog 3 W gm (1+j) (fd (λy=>y∈[(⟨2*(i:Int),seed⟩:Sd)]) secret (aw t i K) j))=>yj W h (by omega) (λs E=>(ax.out j d s E).1) (λs E=>(ax.out j d s E).2));have aW:Hid (∀ j,stS t secret info (aT t i K) j=⟨dE (bf secret j),cA t secret info (aV secret j) (nS (aT t i K) j) ((aT t i K).getD j [])⟩):=λj=>rfl
 have i2:IntKind.i64.wrap (2*(i:Int))=2*(i:Int):=IA _ (by omega);have HU:=Lib.hid hu;have H1:=Lib.hid h1;have H3:=Lib.hid h3;generalize dn:aQ t K i seed secret info=MP at *;generalize dm:makeS t secret info secret 0 (aT t i K)=R at *;generalize dj:dH [⟨2*(i:Int),seed⟩] secret (aw t i K)=OE at *;generalize dr:fd (λy=>y∈[(⟨2*(i:Int),seed⟩:Sd)]) secret (aw t i K)=HL at *;generalize dq:du t (i:Int) (aw t i K) MP=LP at *;generalize dk:nS (aT t i K)=G at *;obtain⟨a,c,rfl,p1,s1⟩:=hu.shape;obtain⟨a1,c1,rfl,_,_⟩:=h1.shape;obtain⟨a2,c2,rfl,_,_⟩:=h2.shape;obtain⟨a3,n3,c3,rfl⟩:=aA h3;have e0:Hid (∀ j,(aV secret j).length=32):=λj=>iq q2 j
 generalize aw t i K=ST at *;obtain⟨M,hM⟩:∃ M,(ixS t i K).length=M:=⟨_,rfl⟩;have ay:Hid ((cI t i K).length=M):=by unfold Hid;rw[gI,hM]
 rw[hM] at dp cK bu bD bE bF d3 bx av bA aR ax bK bI bC ⊢;generalize ey:t.length=N at *;rw[q1] at *;rw[q2] at *;clear hu hr hT h1 h2 h3 F cm aM z2 z3 em c7 hi ad cg ab ci ct dn dm dj dr dq dk hM ey q1 q2 ax ea;unfold maxLen at s1;go_enter func20,ntmps20;go_wp2_with fail;obtain⟨w1,bg⟩:∃ w1,w.alloc (.cells #[.slice none 0 0,.slice none 0 0,.slice none 0 0,.slice none 0 0,.slice none 0 0] 47)=w1:=⟨_,rfl⟩;have eg:Hid (Bx w1 w.heap.size 47 #[.slice none 0 0,.slice none 0 0,.slice none 0 0,.slice none 0 0,.slice none 0 0]):=by unfold Hid;rw[<-bg];exact Bx.new w _ _
 have K1:Hid (Kp w w1):=by unfold Hid;rw[<-bg];exact(Kp.refl _).alloc _
 rw[bg];clear bg;refine(dM.out w1 K1.out).mono ?_;rintro _ w2 ⟨⟨nv,sv,rfl,am⟩,k2⟩;obtain⟨an,nn,cn,rfl⟩:=am.nodes.sl;obtain⟨aN,af,rfl,q5,q6⟩:=SE.shape am.steps;rw[ay.out] at am q5 ⊢;have bw:=Lib.hid am;have K2:=Lib.hid (K1.out.trans k2);have dL:=Lib.hid k2;clear am k2 dM;go_wp2_with fail;obtain⟨w3,be⟩:∃ x,w2.alloc (.cells #[.slice a N c,.int .i64 (i:Int),.slice an nn cn,.slice aN M af] 95)=x:=⟨_,rfl⟩;have ai:Hid (Bx w3 w2.heap.size 95 #[.slice a N c,.int .i64 (i:Int),.slice an nn cn,.slice aN M af]):=by unfold Hid;rw[<-be];exact Bx.new w2 _ _
 have ag:Hid (Kp w2 w3):=by unfold Hid;rw[<-be];exact(Kp.refl _).alloc _
 try rw[be]
 clear be;go_wp2_with fail;refine(dW.out w3 _ seed (H1.out.kp (K2.out.trans ag.out))).mono ?_;rintro _ p ⟨⟨pv,rfl,rp,np⟩,k4⟩;obtain⟨ap,n4,c4,rfl⟩:=aA rp;have RP:=Lib.hid rp;have NP:=Lib.hid np;have bs:=Lib.hid k4;clear rp np k4;go_wp2_with fail;obtain⟨w5,aC⟩:∃ x,p.alloc (.cells #[.slice ap n4 c4,.slice none 0 0] 27)=x:=⟨_,rfl⟩;have cQ:Hid (Bx w5 p.heap.size 27 #[.slice ap n4 c4,.slice none 0 0]):=by unfold Hid;rw[<-aC];exact Bx.new p _ _
 have br:Hid (Kp p w5):=by unfold Hid;rw[<-aC];exact(Kp.refl _).alloc _
 have I:Hid (w5.heap.size=p.heap.size+1):=by unfold Hid;rw[<-aC];simp
 try rw[aC]
 clear aC;go_wp2_with fail;have dI:Hid (Kp w w5):=((K2.out.trans ag.out).trans bs.out).trans br.out;have a4:Hid (SL (w5.alloc (.cells #[.int .i64 (2*(i:Int)),.slice a1 32 c1] 90)) (.slice (some ⟨p.heap.size+1,0,none⟩) 1 1) [⟨2*(i:Int),seed⟩]):=by
  have L:=SE.lit1 (S:=fu) (w:=w5) (vs:=[.int .i64 (2*(i:Int)),.slice a1 32 c1]) (x:=⟨2*(i:Int),seed⟩) (cs:=#[.int .i64 (2*(i:Int)),.slice a1 32 c1]) 90 ⟨_,rfl,H1.out.kp dI.out,bk.none _⟩ rfl;rw[I.out] at L;exact L
 obtain⟨P,cf⟩:∃ x,w5.alloc (.cells #[.int .i64 (2*(i:Int)),.slice a1 32 c1] 90)=x:=⟨_,rfl⟩;have au:Hid (Kp w5 P):=by unfold Hid;rw[<-cf];exact(Kp.refl _).alloc _
 rw[cf] at a4 ⊢;clear cf;refine(ef.out P _ a4.out).mono ?_;rintro _ w7 ⟨⟨rfl,cj⟩,k7⟩;have a6:=Lib.hid cj;have bp:=Lib.hid k7;have cD:Hid (Kp w w7):=(dI.out.trans au.out).trans k7;have eY:Hid (P.heap.size<w7.heap.size):=cj.lt;have dv:=(ai.out.kp (((bs.out.trans br.out).trans au.out).trans k7)).cell 3;simp only[IJ,IF,IK] at dv;clear cj k7 ef a4;go_wp2_with fail;refine(cK.out w7 cD.out).mono ?_;rintro _ u ⟨⟨ov,lv,rfl,ho,hl,hf⟩,k8⟩;obtain⟨ae,ce,rfl,q7,q8⟩:=SE.shape ho;rw[bI.out] at ho q7 hf ⊢;obtain⟨al,nl,cl,rfl⟩:=aA hl;have bH:=Lib.hid (IC ho hf);have d6:=Lib.hid hl;have T:=Lib.hid k8;clear ho hf hl k8 cK dv;go_wp2_with fail;refine(dY.out u (cD.out.trans T.out)).mono ?_;rintro _ A ⟨⟨rfl,bi⟩,k9⟩;have dX:=Lib.hid bi;have cH:=Lib.hid k9;have fc:Hid (Kp w A):=(cD.out.trans T.out).trans k9;have dK:Hid (Kp w3 A):=(((((bs.out.trans br.out).trans au.out).trans bp.out).trans T.out).trans k9);have b8:Hid (KM prog 3 A P.heap.size (1+0) (HL 0)):=((a6.out.kp (T.out.trans k9)).mono (by simp)).congr λz=>eM.out z
 have ee:=Lib.hid (cQ.out.kp (((au.out.trans bp.out).trans T.out).trans k9));have ds:=(ai.out.kp dK.out).cell 3;simp only[IJ,IF,IK] at ds;have HZ:Hid (w.heap.size<w1.heap.size/\w1.heap.size<=w2.heap.size/\w2.heap.size<w3.heap.size/\w3.heap.size<=p.heap.size/\p.heap.size<w5.heap.size/\w5.heap.size<=P.heap.size/\P.heap.size<w7.heap.size/\w7.heap.size<=u.heap.size/\u.heap.size+1<A.heap.size):=
  ⟨(Iz.1 eg.out).1,dL.out.size,(Iz.1 ai.out).1,bs.out.size,(Iz.1 cQ.out).1,au.out.size,eY.out,T.out.size,(Iz.1 bi.cnt).1⟩
 have bG:Hid (nG A (λ_=>False) P.heap.size (u.heap.size+1) u.heap.size p.heap.size (.slice ap n4 c4) (.slice none 0 0) (HL 0) secret 0 [] 0 A):=⟨b8.out.kz.mono (λg e=>by cases e),bi,ee.out,GZ.nil _ _ _,aj.refl _ _⟩;have b9:=Lib.hid (a6.out.kp T.out);have cd:=Lib.hid (cQ.out.kp ((au.out.trans bp.out).trans T.out));clear bi k9 dY a6 b8;go_wp2_with fail;have eF:∃ Y:Nat->Prop,∀ g,Y g↔(g=P.heap.size\/g=u.heap.size+1\/g=p.heap.size):=⟨_,λ_=>Iff.rfl⟩;obtain⟨Y,ex⟩:=eF;have HY:=Lib.hid ex;have bW:Hid (nG A Y P.heap.size (u.heap.size+1) u.heap.size p.heap.size (.slice ap n4 c4) (.slice none 0 0) (HL 0) secret 0 [] 0 A):=⟨bG.out.km,bG.out.once,bG.out.box,bG.out.row,aj.refl _ _⟩;have bV:Hid (∀ W pv rv S n l j,nG A Y P.heap.size (u.heap.size+1) u.heap.size p.heap.size pv rv S secret n l j W->(∃ a n c,pv=.slice a n c)->∀ g,Y g->bS W g):=λW pv rv S n l j h el g o=>by
  obtain⟨fb,e5,e9,rfl⟩:=el;obtain⟨ar,V,cr,rfl⟩:=SE.sl h.row.gl;rcases (HY.out g).1 o with rfl|rfl|rfl
  ·exact bS.map h.km.km.nosolid
  ·exact bS.box h.once.cnt λj z d=>by
    match j with
    | 0=>cases d;exact λn e=>by cases e
    | j+1=>simp at d
  ·exact bS.box h.box λj z d=>by
    match j with
    | 0=>cases d;exact λn e=>by cases e
    | 1=>cases d;exact λn e=>by cases e
    | j+2=>simp at d
 have eV:Hid (R.take 0=[]):=Lq;go_loopw[64] (λz wr=>∃ (j:Nat) (rv:Value),j<=M/\z=.int .i64 (j:Int)/\nG A Y P.heap.size (u.heap.size+1) u.heap.size p.heap.size (.slice ap n4 c4) rv (HL j) secret (G j) (R.take j) j wr) (λz _=>(M - (intOf z).toNat))
 case atStart=>exact⟨0,_,IO _,rfl,by rw[eV.out,eT.out];exact bW.out⟩
 case round=>
  obtain⟨j,rv,d,rfl,f⟩:=hrel;have J:=Lib.hid f;have hz:=HZ.out;have D:Hid (Kp w3 wr):=Kp.stepOld dK f.step (λg o=>by rcases (HY.out g).1 o with rfl|rfl|rfl <;> omega);obtain⟨ar,V,cr,rfl⟩:=SE.sl f.row.gl;have e3:=Lib.hid (bV.out wr _ _ _ _ _ _ f ⟨_,_,_,rfl⟩);have O:Hid (∀ g,(Value.slice ar V cr).ownBlock=some g->A.heap.size<=g/\g<wr.heap.size):=f.row.lt;clear f hz ds;by_cases Q:j<M
  ·have hz:=HZ.out
   obtain⟨b1,o1,y1,q,e1,_,c0,dz,rq⟩:=aH.sp (i:=j) (bw.out.kp ag.out).steps (by rw[ay.out];exact Q);rw[ay.out] at e1;simp only[IG] at e1;obtain⟨rfl,_,rfl⟩:=e1;rw[bA.out j Q] at c0 rq;dsimp only at c0 rq
   obtain⟨aq,nq,cq,rfl⟩:=rq.sl;have ej:=aR.out j Q;have aU:=Lib.hid (bx.out j Q);have a0:=Lib.hid (bF.out j Q);rw[aW.out j] at a0;have bU:=Lib.hid (bD.out j Q);have d1:=Lib.hid (bE.out j d);have da:(R.take j).length+1<=1000000:=by rw[Ja];omega
   have h8:∀ g,Y g->bS u g:=λg o=>by
    rcases (HY.out g).1 o with rfl|rfl|rfl
    ·exact bS.map (b9.out.nosolid)
    ·exact bS.map λE=>by have:=E.lt;omega
    ·exact bS.box cd.out λj z d=>by
      match j with
      | 0=>cases d;exact λn e=>by cases e
      | 1=>cases d;exact λn e=>by cases e
      | j+2=>simp at d
   have dh:bk Y (.slice ae M ce):=λx n c e h0 hy=>by
    have:=bH.out.2 x n c e h0;have cm:=SE.inside bH.out.1 x n c e h0;rcases (HY.out _).1 hy with L|L|L
    ·exact this (by omega)
    ·omega
    ·exact this (by omega)
   obtain⟨b2,o2,y2,ve,e2,cU,bh⟩:=aH.bytesAt (i:=j) bH.out.1 h8 dh (by rw[bI.out];exact Q);rw[bI.out] at e2;simp only[IG] at e2;obtain⟨rfl,_,rfl⟩:=e2;rw[show jR (dB secret M) j=aV secret j from bK.out j Q] at bh;obtain⟨a9,n9,c9,rfl⟩:=aA (bh u (aj.refl _ _)).2;have dN:=Lib.hid bh;have eG:=Lib.hid cU;have dG:Hid (aj Y u wr):=(aj.of_kp cH.out).next J.out.step;obtain⟨X,hX⟩:∃ X,ST.getD j 0=X:=⟨_,rfl⟩;rw[hX] at c0 ej aU;obtain⟨CV,bm⟩:∃ C,(aT t i K).getD j []=C:=⟨_,rfl⟩;rw[bm] at rq a0 bU;have eN:=Lib.hid (λW (b:Kp w3 W)=>rq.kp b);have aS:=Lib.hid (fun(W:World) (x:Int) (h0:Kp w3 W) (E:RZ (λg=>g=u.heap.size+1) W (.slice a9 n9 c9) (aV secret j)) (ho:dC W (u.heap.size+1) u.heap.size secret (G j))=>
    bu.out w3 W (.slice a N c) (.slice an nn cn) (.slice (some ⟨b1,o1,none⟩) M af) (.slice aq nq cq) (.slice a9 n9 c9) j (G j) (u.heap.size+1) u.heap.size x Q h0 (K2.out.trans ag.out) (bw.out.kp ag.out) (by rw[bm];exact rq) E ho (by have:=HZ.out;omega) (by have:=d1.out;omega))
   rw[bm] at aS;have i1:IntKind.i64.wrap ((j:Int)+1)=(j:Int)+1:=IA _ (by omega);have i3:(j:Int)<(M:Int):=by omega
   have bN:Go.keyOf prog 3 (.int .i64 (X:Int))=some (.int .i64 (X:Int)):=keyOf_int_mk underlying3 (Ku (by omega));have ck:=bN;have ew:1+j<maxLen:=by unfold maxLen;omega
   have eA:=D.out.cell c0;have ez:=D.out.cell dz;obtain⟨B,bl⟩:∃ x,wr.alloc (.cells #[.int .i64 (X:Int),.slice aq nq cq] 99)=x:=⟨_,rfl⟩;have KQ:Hid (Kp wr B):=by unfold Hid;rw[<-bl];exact(Kp.refl _).alloc _
   have ed:Hid (Bx B wr.heap.size 99 #[.int .i64 (X:Int),.slice aq nq cq]):=by unfold Hid;rw[<-bl];exact Bx.new wr _ _
   have cT:¬Y wr.heap.size:=λhy=>by have:=J.out.step.size;rcases (HY.out _).1 hy with L|L|L <;> omega
   have cJ:=Lib.hid cT;have I:Hid (∀ W,aj Y B W->W.cell? ⟨wr.heap.size,0,none⟩=some (.int .i64 (X:Int))/\W.cell? ⟨wr.heap.size,1,none⟩=some (.slice aq nq cq)/\W.cell? ⟨b2,o2+j,none⟩=some (.slice a9 n9 c9)):=λW b=>
    ⟨b.cell (ed.out.cell 0) cJ.out,b.cell (ed.out.cell 1) cJ.out,(dN.out W (dG.out.next ((aj.of_kp KQ.out).next b))).1⟩
   have cz:Hid (aj Y B B.drew):=aj.of_kp (Kp.refl B).drew;obtain⟨g0,g1,g2⟩:=I.out B (aj.refl _ _);have aL:=ai.out.kp (D.out.trans KQ.out);have cy:=aL.cell 0;have cx:=aL.cell 1;have cw:=aL.cell 2;have cv:=aL.cell 3;simp only[IJ,IF,IK] at cy cx cw cv;have bt:Hid (¬Y w2.heap.size):=λhy=>by rcases (HY.out _).1 hy with L|L|L <;> omega
   have dP:Hid (∀ W,aj Y B W->(W.cell? ⟨w2.heap.size,0,none⟩=some (.slice a N c)/\W.cell? ⟨w2.heap.size,1,none⟩=some (.int .i64 (i:Int))/\W.cell? ⟨w2.heap.size,2,none⟩=some (.slice an nn cn)/\W.cell? ⟨w2.heap.size,3,none⟩=some (.slice (some ⟨b1,o1,none⟩) M af)/\W.cell? ⟨wr.heap.size,0,none⟩=some (.int .i64 (X:Int))/\W.cell? ⟨wr.heap.size,1,none⟩=some (.slice aq nq cq)/\W.cell? ⟨b2,o2+j,none⟩=some (.slice a9 n9 c9))):=λW b=>⟨b.cell cy bt.out,b.cell cx bt.out,b.cell cw bt.out,b.cell cv bt.out,I.out W b⟩
   have bz:=Lib.hid (dP.out _ cz.out);have cG:Hid (Kp w3 B.drew):=(D.out.trans KQ.out).drew;have cB:=Lib.hid ((J.out.once.kp KQ.out).kp (Kp.refl B).drew);have bP:Hid (∀ W,aj Y B W->RZ (λg=>g=u.heap.size+1) W (.slice a9 n9 c9) (aV secret j)):=λW b=>⟨(dN.out W (dG.out.next ((aj.of_kp KQ.out).next b))).2,λx n c e h0 hk=>by have:=eG.out x n c e h0;omega⟩
   have fe:Hid (Kp w3 B):=D.out.trans KQ.out;clear hX bm c0 dz rq bh cU h8 dh bu bx bF aW bD bE aR bA bK aL cT hz ay bC av cN;go_wp2_with fail;try rw[bl]
   clear bl eA ez;go_region_held3 (λW=>W.cell? ⟨w2.heap.size,0,none⟩=some (.slice a N c)/\W.cell? ⟨w2.heap.size,1,none⟩=some (.int .i64 (i:Int))/\W.cell? ⟨w2.heap.size,2,none⟩=some (.slice an nn cn)/\W.cell? ⟨w2.heap.size,3,none⟩=some (.slice (some ⟨b1,o1,none⟩) M af)/\W.cell? ⟨wr.heap.size,0,none⟩=some (.int .i64 (X:Int))/\W.cell? ⟨wr.heap.size,1,none⟩=some (.slice aq nq cq)/\W.cell? ⟨b2,o2+j,none⟩=some (.slice a9 n9 c9))
    (first|with_reducible exact bz.out|with_reducible exact S2.out)
    (first
     | (go_at_call 58;refine(aS.out _ (X:Int) cG.out (bP.out _ cz.out) cB.out).mono ?_;rintro _ wA ⟨⟨bv,rfl,de⟩,en,cW⟩;obtain⟨bo,bd,bn,rfl⟩:=SE.sl de.gl;have cO:=Lib.hid de;have cL:=Lib.hid en;have aX:=Lib.hid cW;have bB:Hid (aj Y B wA):=cz.out.next (cW.mono λg o=>by rw[o];exact(HY.out _).2 (.inr (.inl rfl)));have S2:=Lib.hid (dP.out _ bB.out)))
   rw[<-bU.out] at cL;have eS:Hid (∀ g,g=u.heap.size+1->bS B.drew g):=λg e=>by
    subst e;exact bS.box cB.out.cnt λj z d=>by
     match j with
     | 0=>cases d;exact λn e=>by cases e
     | j+1=>simp at d
   have hz:=HZ.out;have b7:Hid (bM prog 3 (λg=>some g=(Value.slice ar V cr).ownBlock) wA P.heap.size (1+j) (HL j)):=((J.out.km.kp KQ.out).kp (Kp.refl B).drew).step aX.out (λg e=>.inr (eS.out g e)) (λe=>by omega);have bc:Hid (Bx wA p.heap.size 27 #[.slice ap n4 c4,.slice ar V cr]):=(aX.out.block p.heap.size (Iz.1 ((J.out.box.kp KQ.out).kp (Kp.refl B).drew)).1 (λe=>by omega)).trans ((J.out.box.kp KQ.out).kp (Kp.refl B).drew);have bT:Hid (GZ bJ 74 (λg=>g<A.heap.size) wA A.heap.size (.slice ar V cr) (R.take j)):=((J.out.row.kp KQ.out).kp (Kp.refl B).drew).step (Y:=λg=>g=u.heap.size+1) aX.out (λg e=>.inl (by show g<A.heap.size;omega)) (λg o e=>by have:=(O.out g o).1;omega);have d8:Hid (Kp w3 wA):=Kp.stepOld cG.out aX.out (λg e=>by omega);have H:Hid (wr.heap.size<=B.drew.heap.size/\B.drew.heap.size<=wA.heap.size/\A.heap.size<=wr.heap.size):=⟨KQ.out.size,aX.out.size,J.out.step.size⟩;have dF:Hid (aj Y B wA.drew):=bB.out.next (aj.of_kp (Kp.refl wA).drew);have S3:=Lib.hid (I.out _ dF.out);have dV:=Lib.hid (eN.out wA.drew d8.out.drew);have eH:=Lib.hid (bP.out wA.drew dF.out).1;have et:¬Y wr.heap.size:=cJ.out;obtain⟨g0,g1,g2⟩:=I.out wA bB.out;clear bz S2 cB cG et hz aS cy cx cw cv;go_wp2_with fail;go_region_held3 (λW=>W.cell? ⟨wr.heap.size,0,none⟩=some (.int .i64 (X:Int))/\W.cell? ⟨wr.heap.size,1,none⟩=some (.slice aq nq cq)/\W.cell? ⟨b2,o2+j,none⟩=some (.slice a9 n9 c9))
    (first|with_reducible exact S3.out|with_reducible exact S4.out|with_reducible exact S5.out)
    (first
     | (go_at_call 59;refine(dO.out _ (X:Int) _ _ _ j dV.out eH.out).mono ?_;rintro _ wB ⟨⟨v5,rfl,r5,ei⟩,k5⟩;obtain⟨a5,n5,c5,rfl⟩:=aA r5;have KB:Hid (Kp wA wB):=(Kp.refl wA).drew.trans k5;have SB:Hid (aj Y B wB):=bB.out.next (aj.of_kp KB.out);have S4:=Lib.hid (I.out _ SB.out);have d5:=Lib.hid (b7.out.kp KB.out);have eD:Hid (RZ (λg=>some g=(Value.slice ar V cr).ownBlock) wB (.slice a5 n5 c5) (bf secret j)):=⟨r5,dU ei λg o=>by have:=(O.out g o.symm).2;have:=H.out;have h2:wA.drew.heap.size=wA.heap.size:=rfl;omega⟩;obtain⟨wC,aI,es,dg⟩:=GV (t:=103) (e:=90) fm underlying103 d5.out ew ⟨(X:Int),bf secret j⟩ (.slice a5 n5 c5) bN eD.out;dsimp only at aI;have eX:=Lib.hid es;have a7:=Lib.hid dg;have SC:Hid (aj Y B wC):=SB.out.then dg (λg o=>by cases o;exact .inr ((HY.out _).2 (.inl rfl)));have S5:=Lib.hid (I.out _ SC.out)))
   have aP:Hid (aj (λg=>g=P.heap.size) wB wC):=⟨a7.out.os,a7.out.tape,a7.out.output,a7.out.size,λk hk hn=>a7.out.block k hk (λe=>hn (by cases e;rfl))⟩;have eR:Hid (∀ g,g=P.heap.size->bS wB g):=λg e=>by subst e;exact bS.map d5.out.km.nosolid
   have hz:=HZ.out;have b6:Hid (bM prog 3 (λg=>some g=(Value.slice ar V cr).ownBlock) wC P.heap.size (1+(j+1)) (HL (j+1))):=eX.out.congr λy=>aU.out y
   have dd:HL (j+1) ⟨(X:Int),bf secret j⟩:=(aU.out _).2 (.inl rfl);have d0:Hid (dC wC (u.heap.size+1) u.heap.size secret (G (j+1))):=cL.out.kp KB.out |>.over aP.out eR.out (λe=>by omega) (λe=>by omega)
   have bb:Hid (Bx wC p.heap.size 27 #[.slice ap n4 c4,.slice ar V cr]):=(aP.out.block p.heap.size (Iz.1 (bc.out.kp KB.out)).1 (λe=>by omega)).trans (bc.out.kp KB.out);have dS:Hid (GZ bJ 74 (λg=>g<A.heap.size) wC A.heap.size (.slice ar V cr) (R.take j)):=(bT.out.kp KB.out).step (Y:=λg=>g=P.heap.size) aP.out (λg e=>.inl (by show g<A.heap.size;omega)) (λg o e=>by have:=(O.out g o).1;omega);have ca:Hid (GZ dl 92 (λg=>g<B.drew.heap.size) wC B.drew.heap.size (.slice bo bd bn) (cA t secret info (aV secret j) (G j) CV)):=(cO.out.kp KB.out).step (Y:=λg=>g=P.heap.size) aP.out (λg e=>.inl (by show g<B.drew.heap.size;have:=H.out;omega)) (λg o e=>by have:=(cO.out.lt g o).1;have:=H.out;omega);have bO:Hid (wA.heap.size<=wB.heap.size/\wB.heap.size<=wC.heap.size):=⟨KB.out.size,aP.out.size⟩;clear S3 S4 S5 b7 bc bT cO cL aI hz g0 g1 g2;have dZ:=d0.out.cnt;have eW:=Lib.hid (b6.out.km.kp (Kp.refl wC).drew);have zs:=jW wC.drew;have e7:=pJ (X:Int);obtain⟨qd,aG,ch⟩:=sm (e:=90) 103 fm underlying103 zs eW.out ⟨(X:Int),bf secret j⟩ dd ck;obtain⟨fa,e4,e8,rfl⟩:=aA ch;dsimp only [sdV] at aG
   obtain⟨g0,_,_⟩:=I.out wC SC.out;have cP:=bb.out.cell 1;simp only[IJ,IF,IK] at cP;have eP:=Lib.hid ch;clear dZ zs ch;go_wp2_with fail;go_region_law (first
    | (refine GW (S:=bJ) (Z:=λg=>g<A.heap.size) stK rfl (.tmp 95) (.tmp 104) rfl A.heap.size _ (R.take j) rfl bR.out _ ⟨dE (bf secret j),cA t secret info (aV secret j) (G j) CV⟩ rfl bZ.out da cc.out ?_;intro vF wE oE gE aE;obtain⟨aF,nF,cF,rfl⟩:=SE.sl oE.gl;have ah:Hid (Bx wE p.heap.size 27 #[.slice ap n4 c4,.slice ar V cr]):=ba.out.grown gE (λe=>by have:=(O.out _ e.symm).1;have:=HZ.out;omega);have cE:=ah.out.cell 1;have fE:=ah.out.frozen 1;simp only[IJ,IF,IK] at cE;have OE:=Lib.hid oE;have GE:=Lib.hid gE;have AE:=Lib.hid aE)
    | (go_simp;go_at_call 55;refine(dW.out _ _ (bf secret j) eP.out).mono ?_;rintro _ wD ⟨⟨v8,rfl,r8,eh⟩,k8⟩;obtain⟨a8,n8,c8,rfl⟩:=aA r8;have KD:Hid (Kp wC wD):=(Kp.refl wC).drew.trans k8;have dx:=(bb.out.kp KD.out).cell 1;simp only[IJ,IF,IK] at dx;have aB:Hid (Kp wC (wD.alloc (.cells #[.slice a8 n8 c8,.slice bo bd bn] 74))):=KD.out.alloc _;have bR:=Lib.hid (dS.out.kp aB.out);have ba:=Lib.hid (bb.out.kp aB.out);have dy:=ba.out.cell 1;simp only[IJ,IF,IK] at dy;have cc:Hid (A.heap.size<=(wD.alloc (.cells #[.slice a8 n8 c8,.slice bo bd bn] 74)).heap.size):=(by have h5:=aB.out.size;have:=H.out;have:=bO.out;unfold Hid;omega);have bZ:Hid (SE bJ (λg=>some g=(Value.slice ar V cr).ownBlock\/g<A.heap.size) (wD.alloc (.cells #[.slice a8 n8 c8,.slice bo bd bn] 74)) (.slice (some ⟨wD.heap.size,0,none⟩) 1 1) [⟨dE (bf secret j),cA t secret info (aV secret j) (G j) CV⟩]):=SE.litZ (S:=bJ) 74 ⟨_,_,rfl,⟨r8,dU eh λg o=>by have h6:wC.drew.heap.size=wC.heap.size:=rfl;have:=H.out;have:=bO.out;rcases o with h5|h5;(· have:=(O.out g h5.symm).2;omega);(· omega)⟩,⟨((ca.out.kp KD.out).se).mono λg o=>by show g<B.drew.heap.size;have:=H.out;rcases o with h5|h5;(· have:=(O.out g h5.symm).2;omega);(· omega),dU (C:=B.drew.heap.size) (λg o=>(ca.out.lt g o).1) λg o=>by have:=H.out;rcases o with h5|h5;(· have:=(O.out g h5.symm).2;omega);(· omega)⟩⟩ rfl))
   all_goals (
    obtain⟨wz,ak⟩:∃ x,wE.setCell ⟨p.heap.size,1,none⟩ (.slice aF nF cF)=x:=⟨_,rfl⟩;have hz:=HZ.out;have cb:Hid (Bx wz p.heap.size 27 #[.slice ap n4 c4,.slice aF nF cF]):=by unfold Hid;rw[<-ak];exact ah.out.set 1 (.slice aF nF cF)
    have aO:Hid (aj (λg=>g=p.heap.size) wE wz):=by unfold Hid;rw[<-ak];exact(aj.refl _ _).setCell _ _ (.inr rfl)
    have h3:aj Y A wE:=((((J.out.step.next (aj.of_kp KQ.out)).next SC.out).next (aj.of_kp aB.out)).then GE.out (λk hk=>.inl (O.out k hk).1));have h4:aj Y A wz:=h3.next (aO.out.mono λg e=>by rw[e];exact(HY.out _).2 (.inr (.inr rfl)));have c6:∀ g,g=p.heap.size->bS wE g:=λg e=>by
     subst e;exact bS.box ah.out λj z d=>by
      match j with
      | 0=>cases d;exact λn e=>by cases e
      | 1=>cases d;exact λn e=>by cases e
      | j+2=>simp at d
    have dc:bM prog 3 (λg=>some g=(Value.slice aF nF cF).ownBlock) wE P.heap.size (1+(j+1)) (HL (j+1)):=(b6.out.kp aB.out).moved GE.out AE.out (λe=>by have:=(O.out _ e.symm).1;omega);have db:=dc.step aO.out (λg e=>.inr (c6 g e)) (λe=>by omega);have cu:Bx wE (u.heap.size+1) 3 #[.int .i64 ((G (j+1):Nat):Int)]:=(d0.out.cnt.kp aB.out).grown GE.out (λe=>by have:=(O.out _ e.symm).1;omega);have di:Bx wz (u.heap.size+1) 3 #[.int .i64 ((G (j+1):Nat):Int)]:=(aO.out.block _ (Iz.1 cu).1 (λe=>by omega)).trans cu;have cY:dC wz (u.heap.size+1) u.heap.size secret (G (j+1)):=by
     obtain⟨_,⟨vv,dA,cR⟩,_⟩:=dX.out;refine⟨di,⟨vv,(h4.block _ (Iz.1 dA).1 (λhy=>by rcases (HY.out _).1 hy with L|L|L <;> omega)).trans dA,cR.1.step8 h4 (bV.out A _ _ _ _ _ _ bW.out ⟨_,_,_,rfl⟩),cR.2⟩,by omega⟩
    have bj:=OE.out;rw[<-a0.out] at bj;have cX:=bj.step (Y:=λg=>g=p.heap.size) aO.out (λg e=>.inl (by show g<A.heap.size;omega)) (λg o e=>by have:=(bj.lt g o).1;omega);have eU:Hid (nG A Y P.heap.size (u.heap.size+1) u.heap.size p.heap.size (.slice ap n4 c4) (.slice aF nF cF) (HL (j+1)) secret (G (j+1)) (R.take (j+1)) (j+1) wz):=⟨db,cY,cb.out,cX,h4⟩;try rw[ak]
    clear ak h3 h4 c6 dc db cu di cY bj cX cb aO hz cE fE cP dx dy ah bZ bR ba cc g0 aG;go_wp2_with fail;go_roundw
    case rel=>exact⟨j+1,_,by omega,by first|rfl|(rw[i1];rfl),eU.out⟩
    case measure=>simp[intOf];omega)
  ·obtain rfl:j=M:=by omega
   have h1:¬(j:Int)<(j:Int):=by omega
   have hz:=HZ.out;have cV:R.take j=R:=by rw[<-d3.out];exact Jz
   have f:=J.out;rw[cV] at f;have d4:=Lib.hid f;have bL:=bw.out.kp ag.out;have eE:Hid (Kp p wr):=Kp.stepOld ((((br.out.trans au.out).trans bp.out).trans T.out).trans cH.out) f.step (λg o=>by rcases (HY.out g).1 o with L|L|L <;> omega);have cC:Hid (Kp w wr):=(K2.out.trans ag.out).trans D.out;have aZ:Hid (∀ W,Kp wr W->PIn W (.slice ap n4 c4) (.slice ar V cr) MP):=λW b=>by
    rw[d2.out];exact⟨RP.out.kp (eE.out.trans b),aH.kp f.row.gl b⟩
   have d7:=Lib.hid (λW (b:Kp wr W)=>cN.out W (cC.out.trans b) _ _ _ _ (bL.kp (D.out.trans b)) (aZ.out W b));have dT:=Lib.hid (λW (b:Kp wr W)=>bC.out W P.heap.size j (IB _) (f.km.km.kp b));have bX:Hid (Rd wr (.slice al nl cl) (fF secret j)):=d6.out.step8 ((aj.of_kp cH.out).next f.step) (λg o=>by
    rcases (HY.out g).1 o with L|L|L
    ·subst L;exact bS.map b9.out.nosolid
    ·exact bS.map λE=>by have:=E.lt;omega
    ·subst L
     exact bS.box cd.out λj z d=>by
      match j with
      | 0=>cases d;exact λn e=>by cases e
      | 1=>cases d;exact λn e=>by cases e
      | j+2=>simp at d)
   have U:Hid (∀ W,Kp wr W->Bx W w.heap.size 47 #[.slice none 0 0,.slice none 0 0,.slice none 0 0,.slice none 0 0,.slice none 0 0]):=λW b=>eg.out.kp ((dL.out.trans ag.out).trans (D.out.trans b))
   have aY:Hid (∀ W,Kp wr W->(W.cell? ⟨w2.heap.size,0,none⟩=some (.slice a N c)/\W.cell? ⟨w2.heap.size,1,none⟩=some (.int .i64 (i:Int))/\W.cell? ⟨w2.heap.size,2,none⟩=some (.slice an nn cn)/\W.cell? ⟨w2.heap.size,3,none⟩=some (.slice aN j af)/\W.cell? ⟨p.heap.size,0,none⟩=some (.slice ap n4 c4)/\W.cell? ⟨p.heap.size,1,none⟩=some (.slice ar V cr))):=λW b=>
    ⟨(ai.out.kp (D.out.trans b)).cell 0,(ai.out.kp (D.out.trans b)).cell 1,(ai.out.kp (D.out.trans b)).cell 2,(ai.out.kp (D.out.trans b)).cell 3,(f.box.kp b).cell 0,(f.box.kp b).cell 1⟩
   have eK:Hid (∀ W Wz,Kp wr W->aj (λg=>g=w.heap.size) W Wz->(Wz.cell? ⟨w2.heap.size,0,none⟩=some (.slice a N c)/\Wz.cell? ⟨w2.heap.size,1,none⟩=some (.int .i64 (i:Int))/\Wz.cell? ⟨w2.heap.size,2,none⟩=some (.slice an nn cn)/\Wz.cell? ⟨w2.heap.size,3,none⟩=some (.slice aN j af)/\Wz.cell? ⟨p.heap.size,0,none⟩=some (.slice ap n4 c4)/\Wz.cell? ⟨p.heap.size,1,none⟩=some (.slice ar V cr))):=λW Wz b E=>by
    obtain⟨b0,eC,eB,b3,b4,b5⟩:=aY.out W b;exact⟨E.cell b0 (λe=>by have h5:w2.heap.size=w.heap.size:=e;omega),E.cell eC (λe=>by have h5:w2.heap.size=w.heap.size:=e;omega),E.cell eB (λe=>by have h5:w2.heap.size=w.heap.size:=e;omega),E.cell b3 (λe=>by have h5:w2.heap.size=w.heap.size:=e;omega),E.cell b4 (λe=>by have h5:p.heap.size=w.heap.size:=e;omega),E.cell b5 (λe=>by have h5:p.heap.size=w.heap.size:=e;omega)⟩
   have KD:Hid (Kp wr wr.drew):=(Kp.refl wr).drew;have bz:=Lib.hid (aY.out _ KD.out);have d9:Hid (∀ W Wz (rt ro:Value),Kp wr W->NL W rt LP->GZ fu 90 (λg=>g<wr.heap.size) W wr.heap.size ro OE->aj (λg=>g=w.heap.size) W Wz->MIn Wz rt ro (.slice ap n4 c4) (.slice ar V cr) (.slice al nl cl) ⟨LP,OE,MP,fF secret j⟩):=λW Wz rt ro b hn o aD=>by
    have er:=xQ (U.out W b);have cZ:∀ g,g=w.heap.size->bS W g:=λg e=>by
     subst e;exact bS.box (U.out W b) λj z d=>by
      match j with
      | 0=>cases d;exact λn e=>by cases e
      | 1=>cases d;exact λn e=>by cases e
      | 2=>cases d;exact λn e=>by cases e
      | 3=>cases d;exact λn e=>by cases e
      | 4=>cases d;exact λn e=>by cases e
      | j+5=>simp at d
    have e6:w.heap.size<wr.heap.size:=by have:=cC.out.size;have:=D.out.size;omega
    refine⟨NL.sly hn er aD,(o.step (Y:=λg=>g=w.heap.size) aD (λg e=>.inl (by show g<wr.heap.size;omega)) (λg cp e=>by have:=(o.lt g cp).1;omega)).gl,?_,(bX.out.kp b).step8 aD cZ⟩;have hp:=aZ.out W b;rw[d2.out] at hp ⊢;exact⟨hp.pub.step8 aD cZ,((f.row.kp b).step (Y:=λg=>g=w.heap.size) aD (λg e=>.inl (by show g<A.heap.size;omega)) (λg cp e=>by have:=(f.row.lt g cp).1;omega)).gl⟩
   obtain⟨t0,t1,t2,t3,t4,t5⟩:=aY.out wr (Kp.refl _);clear cV f bL aZ J bw cN bC bu bx bF aW bD bE aR bA bK bX bH d4 d6 hz;go_wp2_with fail;go_region_held3 (λW=>W.cell? ⟨w2.heap.size,0,none⟩=some (.slice a N c)/\W.cell? ⟨w2.heap.size,1,none⟩=some (.int .i64 (i:Int))/\W.cell? ⟨w2.heap.size,2,none⟩=some (.slice an nn cn)/\W.cell? ⟨w2.heap.size,3,none⟩=some (.slice aN j af)/\W.cell? ⟨p.heap.size,0,none⟩=some (.slice ap n4 c4)/\W.cell? ⟨p.heap.size,1,none⟩=some (.slice ar V cr))
    (first|with_reducible exact bz.out|with_reducible exact S2.out|with_reducible exact S3.out|with_reducible exact S4.out)
    (first
     | (go_at_call 61;refine(dT.out _ KT.out).mono ?_;rintro _ wv ⟨⟨vo,lo,rfl,ek,ep,df⟩,kv⟩;obtain rfl:=av.out lo ek ep;obtain⟨ao,no,co,rfl⟩:=SE.sl df.gl;have KV:Hid (Kp wr wv):=KT.out.trans kv;have S3:=Lib.hid (aY.out _ KV.out);have cM:=Lib.hid (pF (U.out wv KV.out) (.slice dD cS dw) (.slice ao no co) (.slice ap n4 c4) (.slice ar V cr) (.slice al nl cl));have S4:=Lib.hid (eK.out wv _ KV.out cM.out.2.1);have eI:=Lib.hid (eJ.out.kp kv);have eQ:Hid (GZ fu 90 (λg=>g<wr.heap.size) wv wr.heap.size (.slice ao no co) lo):=(df.solidly λg o=>.inr (.inl (show g<wT.heap.size from II o KT.out.size))).mono KT.out.size;have ad:=(U.out wv KV.out).there;have j0:=(U.out wv KV.out).cell 0;have j1:=(U.out wv KV.out).cell 1;have j2:=(U.out wv KV.out).cell 2;have j3:=(U.out wv KV.out).cell 3;have j4:=(U.out wv KV.out).cell 4;have f0:=(ad 0 (by decide)).2;have f1:=(ad 1 (by decide)).2;have f2:=(ad 2 (by decide)).2;have f3:=(ad 3 (by decide)).2;have f4:=(ad 4 (by decide)).2;clear ad;rw[JA] at f0 f1 f2 f3 f4;simp only[IJ,IF,IK] at j0 j1 j2 j3 j4)
     | (go_at_call 60;refine(d7.out _ KD.out).mono ?_;rintro _ wT ⟨⟨rt,rfl,ht⟩,kT⟩;obtain⟨dD,cS,dw,rfl⟩:=ht.sl;have eJ:=Lib.hid ht;have KT:Hid (Kp wr wT):=KD.out.trans kT;have S2:=Lib.hid (aY.out _ KT.out)))
   all_goals (
    obtain⟨wz,ak⟩:∃ x,((((wv.setCell ⟨w.heap.size,0,none⟩ (.slice dD cS dw)).setCell ⟨w.heap.size,1,none⟩ (.slice ao no co)).setCell ⟨w.heap.size,2,none⟩ (.slice ap n4 c4)).setCell ⟨w.heap.size,3,none⟩ (.slice ar V cr)).setCell ⟨w.heap.size,4,none⟩ (.slice al nl cl)=x:=⟨_,rfl⟩;have aJ:=cM.out;rw[ak] at aJ ⊢;have I:=Lib.hid aJ;have eb:=Lib.hid (d9.out wv wz _ _ KV.out eI.out eQ.out aJ.2.1);have dJ:Hid (Kp w wz):=aJ.2.2 w (cC.out.trans KV.out) (IB _);clear aJ ak bz S2 S3 S4 cM j0 j1 j2 j3 j4 f0 f1 f2 f3 f4 t0 t1 t2 t3 t4 t5;go_wp2_with fail;refine bodyPost_ret (fY rfl _ _ w.heap.size _ _ (0,0) _ _ rfl I.out.1 underlying47 rfl eo rfl) rfl ?_;exact⟨⟨_,rfl,_,_,_,_,_,rfl,eb.out⟩,dJ.out⟩)

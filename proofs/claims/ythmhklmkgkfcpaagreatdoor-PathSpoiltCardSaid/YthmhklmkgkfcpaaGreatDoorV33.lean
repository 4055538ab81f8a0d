import Derived.Test.YthmhklmkgkfcpaaGreatDoorV32
set_option linter.all false
set_option maxHeartbeats 8000000
set_option maxRecDepth 100000
namespace Go.Proofs.YthmhklmkgkfcpaaGreatDoor
open Go.Proofs.Tryz Go.RowKit
theorem Im (vt vo:Value)(t:List Nod)(i me:Int)(own:List Sd)(b y0 y1 y2:UInt8)(w:World)(ht:NL w vt t)(ho:SL w vo own)(ba:Tab w):
  Calls prog 7 #[.agg #[vt,.int .i64 i,.int .i64 me,vo,.int .u8 (b.toNat:Int),.int .u8 (y0.toNat:Int),.int .u8 (y1.toNat:Int),.int .u8 (y2.toNat:Int)]] w (Yes w):=by
 have aF:=Lib.hid ba;clear ba;have bR:=Lib.hid (λW (C:Kp w W)=>Ih W (aF.out.kp C));have aZ:=Lib.hid (λW (C:Kp w W)=>Dy vt t 40 W (ht.kp C) (by omega));have bU:=Lib.hid (λW (C:Kp w W)=>DW vo own W (aH.kp ho C));have bv:=Lib.hid (λW (C:Kp w W) K (hr:az t K) (hl:li own)=>Fa vt vo t K me own W (ht.kp C) hr (aH.kp ho C) (by have:=hl.1;omega));have bx:=Lib.hid (λW (C:Kp w W) (hl:t.length<=100000)=>pm vt t i W (ht.kp C) hl);have bw:=Lib.hid (λW (C:Kp w W) (hl:t.length<=100000)=>jp vt t W (ht.kp C) hl);have aX:Hid (∀ (n:UInt8) W,Calls prog 26 #[.int .u8 (n.toNat:Int)] W λe w'=>(∃ r,e=.returned r/\Rd w' r (aJ n))/\Kp W w'):=λn W=>(yC n W).mono λe w' ⟨⟨r,h1,h2,_⟩,k⟩=>⟨⟨r,h1,h2⟩,k⟩
 have ck:IntKind.u8.wrap ((b.toNat:Int)+1)=((b+1).toNat:Int):=by
  rw[show(b.toNat:Int)+1=((b.toNat+1:Nat):Int) by omega,JQ];simp
 have HU:=Lib.hid ht;have HO:=Lib.hid ho;obtain⟨a,c,rfl,p1,s1⟩:=ht.shape;obtain⟨ao,no,co,rfl⟩:=SE.sl ho;obtain⟨N,hN⟩:∃ N,t.length=N:=⟨_,rfl⟩;have HN:=Lib.hid hN;rw[hN] at aZ bv bx bw HU ⊢;clear ht ho p1 s1 hN;obtain⟨Y0,bn⟩:∃ n:Nat,y0.toNat=n:=⟨_,rfl⟩;obtain⟨Y1,bm⟩:∃ n:Nat,y1.toNat=n:=⟨_,rfl⟩;obtain⟨Y2,bk⟩:∃ n:Nat,y2.toNat=n:=⟨_,rfl⟩;have bO:Y0<256:=bn▸y0.toNat_lt;have bN:Y1<256:=bm▸y1.toNat_lt;have a8:Y2<256:=bk▸y2.toNat_lt;rw[bn,bm,bk];clear bn bm bk;obtain⟨w0,a5⟩:∃ x,(w.alloc (.cells #[.slice a N c,.int .i64 i,.int .i64 me,.slice ao no co,.int .u8 (b.toNat:Int),.int .u8 (Y0:Int),.int .u8 (Y1:Int),.int .u8 (Y2:Int)] 68)).alloc (.cells #[.int .u8 (Y0:Int),.int .u8 (Y1:Int),.int .u8 (Y2:Int)] 66)=x:=⟨_,rfl⟩;have K1:Hid (Kp w w0):=by unfold Hid;rw[<-a5];exact((Kp.refl w).alloc _).alloc _
 have bE:Hid (Bx w0 (w.heap.size+1) 66 #[.int .u8 (Y0:Int),.int .u8 (Y1:Int),.int .u8 (Y2:Int)]):=by
  unfold Hid;rw[<-a5];have:=Bx.new (w.alloc (.cells #[.slice a N c,.int .i64 i,.int .i64 me,.slice ao no co,.int .u8 (b.toNat:Int),.int .u8 (Y0:Int),.int .u8 (Y1:Int),.int .u8 (Y2:Int)] 68)) 66 #[.int .u8 (Y0:Int),.int .u8 (Y1:Int),.int .u8 (Y2:Int)];rwa [IQ] at this
 go_enter func7,ntmps7;go_wp2_with fail;try rw[a5]
 refine(bR.out _ K1.out).mono ?_;rintro _ w2 ⟨rfl,k2⟩;have KY:=Lib.hid k2;have H:=Lib.hid (K1.out.trans k2);clear k2 bR a5;go_wp2_with fail;refine(aZ.out w2 H.out).mono ?_;rintro _ w3 ⟨⟨bA,rfl,hA⟩,k3⟩;have KY:=Lib.hid (KY.out.trans k3);have H:=Lib.hid (H.out.trans k3);clear k3 aZ;cases bA
 ·clear hA
  go_wp2_with fail;go_ret;exact⟨rfl,H.out⟩
 obtain⟨K,hr,hd⟩:=Ii (hA.1 rfl);have u:=Lib.hid (IC hr hd);clear hA hr hd;go_wp2_with fail;refine(bU.out w3 H.out).mono ?_;rintro _ _ ⟨⟨bB,rfl,hB⟩,rfl⟩;clear bU;cases bB
 ·clear hB
  go_wp2_with fail;go_ret;exact⟨rfl,H.out⟩
 have bu:=Lib.hid (hB.1 rfl);clear hB;go_wp2_with fail;refine(bv.out w3 H.out K u.out.1 bu.out).mono ?_;rintro _ w5 ⟨⟨bD,rfl,hD⟩,k5⟩;have KY:=Lib.hid (KY.out.trans k5);have H:=Lib.hid (H.out.trans k5);clear k5 bv;cases bD
 ·clear hD
  go_wp2_with fail;go_ret;exact⟨rfl,H.out⟩
 have aY:=Lib.hid (hD.1 rfl);clear hD;have bo:N<=100000:=by rw[<-HN.out];exact IU u.out.1.small.1 (by omega)
 go_wp2_with fail;refine(bx.out w5 H.out bo).mono ?_;rintro _ _ ⟨rfl,rfl⟩;clear bx;by_cases s:bd t i
 ·rw[IY s]
  obtain⟨k,rfl,_,I,_⟩:=iP u.out.1 s;obtain⟨m,rfl,_,bK,_⟩:=iP u.out.1 aY.out.1;clear s;by_cases bg:k=m
  ·subst bg
   go_wp2_with fail;go_ret;exact⟨rfl,H.out⟩
  have ch:((k:Int)==(m:Int))=false:=ID.2 (by omega);obtain⟨bf,bG⟩:=dR t k K;obtain⟨t1,t2,t3⟩:=wQ u.out.1 I bg aY.out;have bP:(aw t k K).length<=10:=by rw[bf];exact IU (jm t k K) u.out.1.le
  have bL:k<2 ^ K:=by have:=az.lt_of (t:=t) (x:=2*k) (by rw[I];decide);have:=u.out.1.len2;omega
  have bI:m<2 ^ K:=by have:=az.lt_of (t:=t) (x:=2*m) (by rw[bK];decide);have:=u.out.1.len2;omega
  have bV:Hid (∀ W,Calls prog 30 #[.int .i64 (k:Int),.int .i64 (m:Int),.int .i64 ((2 ^ K:Nat):Int)] W λe w'=>e=.returned (.tuple #[.int .i64 ((coN k m:Nat):Int),.int .i64 0])/\W=w'):=λW=>CL K k m W u.out.1.le bL bI
  have bc:Hid (∀ W,Kp w W->Calls prog 31 #[.slice a N c] W λe w'=>e=.returned (.int .i64 ((2 ^ K:Nat):Int))/\W=w'):=λW C=>by
   have:=bw.out W C bo;rwa [u.out.1.lv] at this
  have bS:Hid (∀ W,Kp w W->Calls prog 14 #[.slice a N c,.int .i64 (k:Int)] W λe w'=>(∃ v,e=.returned (.tuple #[v,.int .i64 0])/\RN w' v (aw t k K))/\Kp W w'):=λW C=>by
   have s:=(u.out.1.there_iff k).2 I;have:=DV (.slice a N c) t K (k:Int) W (HU.out.kp C) u.out.1;unfold dF fD at this;rwa [if_pos s,if_pos s,IM] at this
  have bT:Hid (∀ W v1 v2 v3,Kp w W->Rd W v1 (aJ b)->Rd W v2 (aJ (b+1))->Rd W v3 []->Calls prog 20 #[.slice a N c,.int .i64 (k:Int),v1,v2,v3] W λe w'=>(∃ v,e=.returned (.tuple #[v,.int .i64 0])/\MV w' v (di t K (k:Int) (aJ b) (aJ (b+1)) []))/\Kp W w'):=λW v1 v2 v3 C h1 h2 h3=>by
   have:=yv (.slice a N c) v1 v2 v3 t K (k:Int) (aJ b) (aJ (b+1)) [] W (HU.out.kp C) u.out.1 u.out.2 h1 h2 h3 (by simp) (aF.out.kp C);rwa [(yD [] u.out.1 u.out.2 I (fo b) (fo (b+1))).1] at this
  have aK:=Ik (seed:=aJ b) (secret:=aJ (b+1)) [] u.out.1 I bg aY.out (fo b) (fo (b+1));have bH:=(yD [] u.out.1 u.out.2 I (fo b) (fo (b+1))).2.2.2.2.2;have hf:=ir t K k (aJ b) (aJ (b+1)) [];have bh:(aQ t K k (aJ b) (aJ (b+1)) []).step.length=(aw t k K).length:=by rw[hf.1,bG,bf]
  have aM:Hid (∀ a,a<(aw t k K).length->(am (aQ t K k (aJ b) (aJ (b+1)) []).step a).pub.length=32):=λa ha=>(hf.2.2 a (by omega)).2
  have bt:Hid (∀ p,cO t K (k:Int) (m:Int) own [] p=dI->so p->∀ W x y,Kp w W->PIn W x y p->Calls prog 23 #[.slice a N c,.int .i64 (k:Int),.int .i64 (m:Int),.slice ao no co,.slice none 0 0,.agg #[x,y]] W λe w'=>(∃ v,e=.returned (.tuple #[v,.int .i64 (cH t K (k:Int) (m:Int) own [] p)])/\MV w' v dI)/\Kp W w'):=λp hp hz W x y C aN=>by
   have:=yy (.slice a N c) (.slice ao no co) (.slice none 0 0) x y t K (k:Int) (m:Int) own [] p W (HU.out.kp C) u.out.1 u.out.2 (aH.kp HO.out C) (cR _) aN aY.out (by simp) (by have:=bu.out.1;omega) hz.1 hz.2 (aF.out.kp C);rwa [hp] at this
  have ar:Hid (∀ j PW,kM t k m<=j->j<(aw t k K).length->PW.length=32->PW≠(am (aQ t K k (aJ b) (aJ (b+1)) []).step j).pub->∀ W x y,Kp w W->PIn W x y (fI (aQ t K k (aJ b) (aJ (b+1)) []) j PW)->Calls prog 23 #[.slice a N c,.int .i64 (k:Int),.int .i64 (m:Int),.slice ao no co,.slice none 0 0,.agg #[x,y]] W λe w'=>(∃ v,e=.returned (.tuple #[v,.int .i64 5])/\MV w' v dI)/\Kp W w'):=λj PW h1 h2 h3 h4 W x y C aN=>by
   obtain⟨q1,q2,q3⟩:=aK.1 j PW h1 h2 h3 h4;have:=bt.out _ q2 q3 W x y C aN;rwa [q1] at this
  have bb:Hid (∀ W x y,Kp w W->PIn W x y (jx (aQ t K k (aJ b) (aJ (b+1)) []))->Calls prog 23 #[.slice a N c,.int .i64 (k:Int),.int .i64 (m:Int),.slice ao no co,.slice none 0 0,.agg #[x,y]] W λe w'=>(∃ v,e=.returned (.tuple #[v,.int .i64 2])/\MV w' v dI)/\Kp W w'):=λW x y C aN=>by
   have:=bt.out _ aK.2.2.1 aK.2.2.2 W x y C aN;rwa [aK.2.1] at this
  generalize di t K (k:Int) (aJ b) (aJ (b+1)) []=MD at *;generalize aQ t K k (aJ b) (aJ (b+1)) []=V at *;generalize aw t k K=LS at *;generalize kM t k m=fM at *;generalize coN k m=CO at *;generalize 2 ^ K=TK at *;obtain⟨M,hM⟩:∃ M,LS.length=M:=⟨_,rfl⟩;rw[hM] at t1 bP bh aM ar;have cf:=Lib.hid hM;have O:=Lib.hid bh;have cd:=Lib.hid t2;have G:=Lib.hid t3;have ce:=Lib.hid bH;have cq:(M:Int)<=10:=by omega
  have cp:((M:Int)==0)=false:=ID.2 (by omega);clear bf bG t2 t3 bL bI aK bH hf bh hM bt bw u bu aY I bK HO HU bo aF;go_wp2_with fail;refine(aX.out b w5).mono ?_;rintro _ w6 ⟨⟨r6,rfl,s6⟩,k6⟩;have R6:=Lib.hid s6;have KY:=Lib.hid (KY.out.trans k6);have H:=Lib.hid (H.out.trans k6);clear s6 k6;go_wp2_with fail;refine(aX.out (b+1) w6).mono ?_;rintro _ w7 ⟨⟨r7,rfl,s7⟩,k7⟩;have R7:=Lib.hid s7;have R6:=Lib.hid (R6.out.kp k7);have KY:=Lib.hid (KY.out.trans k7);have H:=Lib.hid (H.out.trans k7);clear s7 k7 aX;go_wp2_with fail;refine(bT.out w7 _ _ _ H.out R6.out R7.out (cR _)).mono ?_;rintro _ w9 ⟨⟨v,rfl,ci,o1,x1,z1,l1,rfl,m1⟩,k9⟩;have KY:=Lib.hid (KY.out.trans k9);have H:=Lib.hid (H.out.trans k9);have aG:=m1.path;rw[ce.out] at aG;obtain⟨b1,e1,g1,rfl⟩:=m1.tree.sl;obtain⟨b2,e2,g2,rfl⟩:=SE.sl m1.own;obtain⟨b3,e3,g3,rfl⟩:=aA aG.pub;obtain⟨b4,g4,rfl,b9,cm⟩:=SE.shape aG.step;obtain⟨b5,e5,g5,rfl⟩:=aA m1.last;rw[O.out] at aG b9 ⊢;have PP:=Lib.hid aG;clear k9 m1 aG bT R6 R7;obtain⟨bs,os,cc,_⟩:=SE.at PP.out.step (by omega);subst cc;obtain⟨wA,a4⟩:∃ x,w9.alloc (.cells #[.slice b1 e1 g1,.slice b2 e2 g2,.slice b3 e3 g3,.slice (some ⟨bs,os,none⟩) M g4,.slice b5 e5 g5] 47)=x:=⟨_,rfl⟩;have bW:Hid (Bx wA w9.heap.size 47 #[.slice b1 e1 g1,.slice b2 e2 g2,.slice b3 e3 g3,.slice (some ⟨bs,os,none⟩) M g4,.slice b5 e5 g5]):=by unfold Hid;rw[<-a4];exact Bx.new w9 _ _
  have KA:Hid (Kp w9 wA):=by unfold Hid;rw[<-a4];exact(Kp.refl _).alloc _
  have an:Hid (∀ W,Kp wA W->W.cell? ⟨w9.heap.size,2,none⟩=some (.slice b3 e3 g3)/\W.cell? ⟨w9.heap.size,3,none⟩=some (.slice (some ⟨bs,os,none⟩) M g4)):=λW C=>⟨(bW.out.kp C).cell 2,(bW.out.kp C).cell 3⟩
  have H:=Lib.hid (H.out.trans KA.out);have KY:=Lib.hid (KY.out.trans KA.out);have PP:=Lib.hid (PP.out.kp KA.out);have a9:Hid (∀ W,Kp wA W->W.cell? ⟨w.heap.size+1,0,none⟩=some (.int .u8 (Y0:Int))/\W.cell? ⟨w.heap.size+1,1,none⟩=some (.int .u8 (Y1:Int))/\W.cell? ⟨w.heap.size+1,2,none⟩=some (.int .u8 (Y2:Int))):=λW C=>⟨(bE.out.kp (KY.out.trans C)).cell 0,(bE.out.kp (KY.out.trans C)).cell 1,(bE.out.kp (KY.out.trans C)).cell 2⟩
  obtain⟨c2,c3⟩:=an.out wA (Kp.refl _);go_wp2_with fail;try rw[a4]
  clear a4;refine(bc.out wA H.out).mono ?_;rintro _ _ ⟨rfl,rfl⟩;go_wp2_with fail;refine(bV.out wA).mono ?_;rintro _ _ ⟨rfl,rfl⟩;clear c2 c3;go_wp2_with fail;refine(bS.out wA H.out).mono ?_;rintro _ wB ⟨⟨vl,rfl,rl⟩,kB⟩;have bQ:=Lib.hid rl;have T:=Lib.hid kB;obtain⟨al,cl,rfl,_,_⟩:=rl.shape;rw[cf.out] at bQ ⊢;clear rl kB bS bc bV;obtain⟨bl,ol,rfl,_,bM⟩:=bQ.out.at 0 (by omega);have cg:=Lib.hid bM;clear bM;go_wp2_with fail;go_loopw[16] (λq wr=>∃ j:Nat,j<=fM/\q=.int .i64 j/\wr=wB) (λq _=>fM - (intOf q).toNat)
  case atStart=>exact⟨0,by omega,rfl,by first|rfl|trivial⟩
  case round=>
   obtain⟨j,hj,rfl,rfl⟩:=hrel;have cn:=cg.out j (by omega);have a6:j≠fM->LS.getD j 0≠CO:=λh=>G.out j (by omega)
   have a7:j=fM->LS.getD j 0=CO:=λh=>h▸cd.out
   generalize LS.getD j 0=x at *;by_cases hl:(j:Int)<(M:Int) - 1
   ·by_cases he:j=fM
    ·have bY:((x:Int)==(CO:Int))=true:=by rw[a7 he];exact beq_self_eq_true _
     subst he;clear a7 a6;have b8:(j:Int)<(M:Int):=by omega
     obtain⟨d,hd⟩:∃ d:Nat,Y0 % (M - j)=d:=⟨_,rfl⟩;have bj:d<M - j:=by rw[<-hd];exact Mj _ (by omega)
     have wa:IntKind.i64.wrap (Y0:Int)=(Y0:Int):=IA _ (by omega);have ws:IntKind.i64.wrap ((M:Int) - (j:Int))=((M - j:Nat):Int):=by rw[IA _ (by omega)];omega
     have wz:(((M - j:Nat):Int)==0)=false:=ID.2 (by omega);have wm:(Y0:Int).tmod ((M - j:Nat):Int)=(d:Int):=by rw[Ji (by omega),<-hd];rfl
     have wd:IntKind.i64.wrap (d:Int)=(d:Int):=IA _ (by omega);obtain⟨E,bi⟩:∃ E:Nat,j+d=E:=⟨_,rfl⟩;have wk:IntKind.i64.wrap ((j:Int)+(d:Int))=(E:Int):=by rw[IA _ (by omega)];omega
     have ad:E<M:=by omega
     have av:j<=E:=by omega
     have b6:(E:Int)<(M:Int):=by omega
     have b7:¬(E:Int)<0:=by omega
     have aD:=Lib.hid (IC ad av);obtain⟨D,hD⟩:∃ D,M - j=D:=⟨_,rfl⟩;rw[hD] at ws wz wm;have bX:¬(D:Int)=0:=by omega
     clear hd bj bi hD hj;obtain⟨d0,d1,d2⟩:=a9.out wr T.out;obtain⟨c2,c3⟩:=an.out _ (T.out.alloc (.cells #[] 74));have HV:Hid (SE bJ (λg=>some g=(Value.slice (some ⟨wr.heap.size,0,none⟩) 0 0).ownBlock\/noB g) (wr.alloc (.cells #[] 74)) (.slice (some ⟨bs,os,none⟩) M g4) V.step):=
      (SZ.step ((aH.kp PP.out.step T.out).sz.olds) (aj.of_kp ((Kp.refl wr).alloc _))).1.mono λg hg=>hg.elim (λe=>by simp[Value.ownBlock] at e;exact .inr (by omega)) λh=>h.elim
     obtain⟨q,hq⟩:∃ q:Nat,Y1 % 32=q:=⟨_,rfl⟩;have aL:q<32:=by rw[<-hq];exact Mj _ (by decide)
     have va:IntKind.i64.wrap (Y1:Int)=(Y1:Int):=IA _ (by omega);have vm:(Y1:Int).tmod 32=(q:Int):=by rw[Ji (by omega),<-hq];rfl
     have vd:IntKind.i64.wrap (q:Int)=(q:Int):=IA _ (by omega);have bZ:(q:Int)<32:=by omega
     have b0:¬(q:Int)<0:=by omega
     obtain⟨cx,aR,af⟩:=yH Y2 a8;obtain⟨Z2,ah⟩:∃ z:Int,((Y2 % 255:Nat):Int)=z:=⟨_,rfl⟩;rw[ah] at af;have um:(Y2:Int).tmod 255=Z2:=by rw[Ji (by omega),<-ah];rfl
     have uw:IntKind.u8.wrap Z2=Z2:=by rw[<-ah,JQ];omega
     have uc:IntKind.u8.wrap (1+Z2)=(cx.toNat:Int):=by
      rw[<-af,JQ];have:=cx.toNat_lt;omega
     have ab:=aM.out E ad;have ae:=yG cx (l:=(am V.step E).pub) (k:=q) (by omega) aR;have au:=da ((am V.step E).pub.getD q 0) cx;obtain⟨P0,ay⟩:∃ P0:UInt8,(am V.step E).pub.getD q 0=P0:=⟨_,rfl⟩;obtain⟨P1,aS⟩:∃ P1:UInt8,P0 ^^^ cx=P1:=⟨_,rfl⟩;rw[ay] at ae au;rw[aS] at ae au;obtain⟨CX,aT⟩:∃ z:Int,(cx.toNat:Int)=z:=⟨_,rfl⟩;rw[aT] at uc au;obtain⟨R,J⟩:∃ l,(am V.step E).pub=l:=⟨_,rfl⟩;have aV:Hid (∀ W x y,Kp w W->PIn W x y (fI V E (R.set q P1))->Calls prog 23 #[.slice a N c,.int .i64 (k:Int),.int .i64 (m:Int),.slice ao no co,.slice none 0 0,.agg #[x,y]] W λe w'=>(∃ v,e=.returned (.tuple #[v,.int .i64 5])/\MV w' v dI)/\Kp W w'):=ar.out E (R.set q P1) av ad (by rw[IW,<-J];exact ab) (by rw[<-J];exact ae);have bC:Hid (∀ W B v,Ow 5 W B v R->∃ P cP,v=.slice (some ⟨P,0,none⟩) 32 cP/\B<=P/\P<W.heap.size/\W.cell? ⟨P,q,none⟩=some (.int .u8 (P0.toNat:Int))/\W.frozen? ⟨P,q,none⟩=false):=λW B v h=>by
      have hl:R.length=32:=by rw[<-J];exact ab
      rcases h.shape with⟨_,e⟩|⟨g',c',e,h1,h2,_⟩
      ·rw[e] at hl;cases hl
      ·rw[hl] at e
       subst e;obtain⟨b',bF,e2,_,hc⟩:=h.rd.at q (by omega);simp only[Jo,JY,and_true] at e2;obtain⟨rfl,rfl⟩:=e2;have:=hc q (by omega);rw[<-J,ay,JA] at this;exact⟨g',c',rfl,h1,h2,this,World.ownsRow.frozenAt (by unfold Ow at h;rw[hl] at h;exact h) q⟩
     have aC:Hid ((am V.step E).pub=R/\R.length=32):=⟨J,by rw[<-J];exact ab⟩;have U:=ag;have HQ:=Lib.hid af;clear hq aL aR af ah ab ae ay aS aT J ar aM bO bN a8 ad av;go_wp2_with(first
      | (at_builtin;refine gQ (o:=⟨some 127,_,_,_,_,_⟩) (S:=bJ) (Z:=noB) stK rfl _ _ rfl wr.heap.size _ [] rfl (GZ.empty _ wr) _ V.step rfl HV.out (by rw[O.out];simp;omega) (by simp) ?_;intro vS wE oS g' _;rw[Js] at oS;have kE:Kp wr wE:=Kp.grown (v:=.slice (some ⟨wr.heap.size,0,none⟩) 0 0) ((Kp.refl _).alloc _) g' (by intro k Q;simp[Value.ownBlock] at Q;omega);obtain⟨gS,cS,aI,aO,aP,_,_,_⟩:=oS.form (by rw[O.out];omega);rw[O.out] at aI;subst aI;obtain⟨xP,nP,dP,j0,j1,j2⟩:=pK oS E (by rw[O.out];exact aD.out.1);rw[aC.out.1] at j2;obtain rfl:nP=32:=j2.len.1.trans aC.out.2;have j3:=Kp.cell ((Kp.refl wE).alloc (.cells #[] 5)) j0;have KE:=Lib.hid kE;have OS:=Lib.hid oS;have a1:=Lib.hid (IC aO aP);have RP:=Lib.hid j2;clear g' kE oS aO aP j2)
      | (at_builtin;refine cj (o:=⟨some 148,_,_,_,_,_⟩) U rfl _ _ rfl wE.heap.size _ [] rfl (Ow.lit wE 5 wE.heap.size 0 #[] [] (IB _) rfl (by decide) rfl) _ R rfl (RP.out.kp ((Kp.refl _).alloc _)) (by rw[aC.out.2];simp) (by simp) ?_;intro v6 w6 o6 g6 _;rw[Js] at o6;have k6:Kp wE w6:=Kp.grown (v:=.slice (some ⟨wE.heap.size,0,none⟩) 0 0) ((Kp.refl _).alloc _) g6 (by intro k Q;simp[Value.ownBlock] at Q;omega);obtain⟨P,cP,be,aq,ap,p6,q6⟩:=bC.out w6 _ v6 o6;subst be;obtain⟨f0,f1,f2⟩:=a9.out _ ((T.out.trans KE.out).trans k6);have K6:=Lib.hid k6;have O6:=Lib.hid o6;have a2:=Lib.hid (IC aq ap);clear k6 o6 g6 aq ap j0 j1 j3))
     go_region
     obtain⟨w7,aa⟩:∃ x,(w6.setCell ⟨P,q,none⟩ (.int .u8 (P1.toNat:Int))).drew=x:=⟨_,rfl⟩;have K7:Hid (Kp wE w7):=by unfold Hid;rw[<-aa];exact(K6.out.setNew a2.out.1 _).drew
     have O7:Hid (Rd w7 (.slice (some ⟨P,0,none⟩) 32 cP) (R.set q P1)):=by unfold Hid;rw[<-aa];exact(O6.out.put11 P1).rd.kp (Kp.refl _).drew
     have ax:=OS.out.kp K7.out;obtain⟨x8,n8,d8,j0,j1,_⟩:=pK ax E (by rw[O.out];exact aD.out.1);obtain⟨s8,t8⟩:=yF ax E (by rw[O.out];exact aD.out.1) (.slice (some ⟨P,0,none⟩) 32 cP) (R.set q P1) ⟨O7.out,λx n c e h0 Q=>by
      simp only[IG,Jo] at e;obtain⟨rfl,_⟩:=e;rcases Q with Q|Q
      ·have:=a2.out.1
       have:=a1.out.2;have Q:P=gS:=Q;omega
      ·exact Q⟩
     obtain⟨w8,Y⟩:∃ x,w7.setCell ⟨gS,E*2,none⟩ (.slice (some ⟨P,0,none⟩) 32 cP)=x:=⟨_,rfl⟩;have K8:Hid (Kp wA w8):=by unfold Hid;rw[<-Y];exact T.out.trans ((KE.out.trans K7.out).setNew a1.out.1 _)
     rw[Y] at s8;have P8:Hid (PIn w8 (.slice b3 e3 g3) (.slice (some ⟨gS,0,none⟩) M cS) (fI V E (R.set q P1))):=⟨PP.out.pub.kp K8.out,s8.gl⟩;obtain⟨bq,bp⟩:=an.out w8 K8.out;have aU:=Lib.hid (H.out.trans K8.out);rw[aa];clear aa ax s8 t8 c2 c3 d0 d1 d2 p6 q6 f0 f1 f2 O6 O7 OS HV RP;go_wp2_with fail;try rw[Y]
     clear Y j0 j1 bq bp;refine(aV.out w8 _ _ aU.out P8.out).mono ?_;rintro _ wT ⟨⟨v,rfl,tT,oT,xT,yT,lT,rfl,mT⟩,kT⟩;obtain⟨p1,q1,e,_,_⟩:=NL.shape (show NL wT tT [] from mT.tree);have e:tT=.slice p1 0 q1:=e;subst e;obtain⟨p2,n2,q2,rfl⟩:=SE.sl mT.own;obtain⟨aW,n3,q3,rfl⟩:=aA mT.path.pub;obtain⟨p4,n4,q4,rfl⟩:=SE.sl mT.path.step;obtain⟨p5,n5,q5,rfl⟩:=aA mT.last;have KT:=Lib.hid (K8.out.trans kT);clear kT mT P8 K8 aU aV;obtain⟨f,X⟩:∃ x,wT.alloc (.cells #[.slice p1 0 q1,.slice p2 n2 q2,.slice aW n3 q3,.slice p4 n4 q4,.slice p5 n5 q5] 47)=x:=⟨_,rfl⟩;have a3:Hid (Bx f wT.heap.size 47 #[.slice p1 0 q1,.slice p2 n2 q2,.slice aW n3 q3,.slice p4 n4 q4,.slice p5 n5 q5]):=by unfold Hid;rw[<-X];exact Bx.new wT _ _
     have KU:Hid (Kp wA f):=by unfold Hid;rw[<-X];exact KT.out.trans ((Kp.refl _).alloc _)
     obtain⟨c2,c3⟩:=an.out f KU.out;go_wp2_with fail;try rw[X]
     clear X;have cb:(1:Int)<=(M:Int):=by omega
     have ca:(1:Int)<=(g4:Int):=by omega
     obtain⟨A1,ai⟩:∃ A:Option Addr,(if g4=1 then some ⟨bs,os,none⟩ else some ⟨bs,os+2,none⟩)=A:=⟨_,rfl⟩;have HD:Hid (∀ W,Kp wA W->PIn W (.slice b3 e3 g3) (.slice A1 (M - 1) (g4 - 1)) (jx V)):=λW C=>⟨PP.out.pub.kp C,SE.drop1 (aH.kp PP.out.step C) (by omega) A1 (λh=>by rw[<-ai,if_neg (by omega)];rfl) (λh=>by rw[h] at ai;split at ai <;> cases ai)⟩
     have KD:Hid (Kp f f.drew):=(Kp.refl f).drew;have ak:Hid (Kp f (f.alloc (.cells #[.slice none 0 0,.slice none 0 0,.slice none 0 0,.slice none 0 0,.slice none 0 0] 47)).drew):=((Kp.refl f).alloc _).drew;have br:Hid (Bx (f.alloc (.cells #[.slice none 0 0,.slice none 0 0,.slice none 0 0,.slice none 0 0,.slice none 0 0] 47)).drew f.heap.size 47 #[.slice none 0 0,.slice none 0 0,.slice none 0 0,.slice none 0 0,.slice none 0 0]):=(Bx.new f _ _).kp (Kp.refl _).drew;have L:Hid (∀ W,Kp f W->W.cell? ⟨w9.heap.size,2,none⟩=some (.slice b3 e3 g3)/\W.cell? ⟨w9.heap.size,3,none⟩=some (.slice (some ⟨bs,os,none⟩) M g4)):=λW C=>an.out W (KU.out.trans C)
     have bz:=Lib.hid (L.out _ KD.out);have S0:=Lib.hid (L.out _ ak.out);clear PP KT;go_region_held3 (λW=>W.cell? ⟨w9.heap.size,2,none⟩=some (.slice b3 e3 g3)/\W.cell? ⟨w9.heap.size,3,none⟩=some (.slice (some ⟨bs,os,none⟩) M g4))
      (first|with_reducible exact S0.out|with_reducible exact bz.out|with_reducible exact S2.out|with_reducible exact S3.out|with_reducible exact S4.out|with_reducible exact S5.out|fail)
      (first|(go_at_call 23;refine(bb.out _ _ _ (H.out.trans (KU.out.trans (by first|exact KD.out|exact ak.out))) (HD.out _ (KU.out.trans (by first|exact KD.out|exact ak.out)))).mono ?_;rintro _ wV ⟨⟨v,rfl,tV,oV,xV,yV,lV,rfl,mV⟩,kV⟩;obtain⟨r1,u1,v1,rfl⟩:=mV.tree.sl;obtain⟨r2,u2,v2,rfl⟩:=SE.sl mV.own;obtain⟨r3,u3,v3,rfl⟩:=aA mV.path.pub;obtain⟨r4,u4,v4,rfl⟩:=SE.sl mV.path.step;obtain⟨r5,v5,aB,_,_⟩:=Rd.shape (show Rd wV lV [] from mV.last);have aB:lV=.slice r5 0 v5:=aB;subst aB;have KV:Hid (Kp f wV):=(by first|exact KD.out.trans kV|exact ak.out.trans kV);have S2:=Lib.hid (L.out _ KV.out);have S3:=Lib.hid (L.out _ (KV.out.alloc (.cells #[.slice none 0 0,.slice none 0 0,.slice none 0 0,.slice none 0 0,.slice none 0 0] 47)));have S4:=Lib.hid (L.out _ (KV.out.alloc (.cells #[.slice r1 u1 v1,.slice r2 u2 v2,.slice r3 u3 v3,.slice r4 u4 v4,.slice r5 0 v5] 47)));(try (have G:Hid (Bx wV f.heap.size 47 #[.slice none 0 0,.slice none 0 0,.slice none 0 0,.slice none 0 0,.slice none 0 0]):=br.out.kp kV;have a0:=Lib.hid (pF G.out (.slice r1 u1 v1) (.slice r2 u2 v2) (.slice r3 u3 v3) (.slice r4 u4 v4) (.slice r5 0 v5));have K5:=Lib.hid (a0.out.2.2 f KV.out (IB _));have S5:=Lib.hid (L.out _ K5.out);have s:=G.out.there;have j0:=G.out.cell 0;have j1:=G.out.cell 1;have j2:=G.out.cell 2;have j3:=G.out.cell 3;have j4:=G.out.cell 4;have f0:=(s 0 (by decide)).2;have f1:=(s 1 (by decide)).2;have f2:=(s 2 (by decide)).2;have f3:=(s 3 (by decide)).2;have f4:=(s 4 (by decide)).2;clear s;rw[JA] at f0 f1 f2 f3 f4;simp only[IJ,IF,IK] at j0 j1 j2 j3 j4))))
     all_goals (
      clear S0 bz S2 S3 S4 c2 c3;try clear j0 j1 j2 j3 j4 f0 f1 f2 f3 f4
      first
       | (obtain⟨wF,F⟩:∃ x,wV.alloc (.cells #[.slice r1 u1 v1,.slice r2 u2 v2,.slice r3 u3 v3,.slice r4 u4 v4,.slice r5 0 v5] 47)=x:=⟨_,rfl⟩;have KF:Hid (Kp f wF):=(by unfold Hid;rw[<-F];exact KV.out.alloc _);have aE:Hid (Bx wF wV.heap.size 47 #[.slice r1 u1 v1,.slice r2 u2 v2,.slice r3 u3 v3,.slice r4 u4 v4,.slice r5 0 v5]):=(by unfold Hid;rw[<-F];exact Bx.new wV _ _);rw[F];have x0:=(a3.out.kp KF.out).cell 0;have y4:=aE.out.cell 4;simp only[IJ,IF,IK] at x0 y4;have KE:=Lib.hid (H.out.trans (KU.out.trans KF.out));clear F;go_wp2_with fail;go_ret;exact⟨rfl,KE.out⟩)
       | (obtain⟨wF,F⟩:∃ x,(((((wV.setCell ⟨f.heap.size,0,none⟩ (.slice r1 u1 v1)).setCell ⟨f.heap.size,1,none⟩ (.slice r2 u2 v2)).setCell ⟨f.heap.size,2,none⟩ (.slice r3 u3 v3)).setCell ⟨f.heap.size,3,none⟩ (.slice r4 u4 v4)).setCell ⟨f.heap.size,4,none⟩ (.slice r5 0 v5))=x:=⟨_,rfl⟩;have KF:Hid (Kp f wF):=(by unfold Hid;rw[<-F];exact K5.out);have aE:Hid (Bx wF f.heap.size 47 #[.slice r1 u1 v1,.slice r2 u2 v2,.slice r3 u3 v3,.slice r4 u4 v4,.slice r5 0 v5]):=(by unfold Hid;rw[<-F];exact a0.out.1);rw[F];have x0:=(a3.out.kp KF.out).cell 0;have y4:=aE.out.cell 4;simp only[IJ,IF,IK] at x0 y4;have KE:=Lib.hid (H.out.trans (KU.out.trans KF.out));clear F;go_wp2_with fail;go_ret;exact⟨rfl,KE.out⟩))
    ·have bY:((x:Int)==(CO:Int))=false:=ID.2 (by have:=a6 he;omega)
     clear a7 a6;go_wp2_with fail;go_roundw
     case rel=>exact⟨j+1,by omega,by go_num,by first|rfl|trivial⟩
     case measure=>simp[intOf];omega
   ·obtain rfl:j=fM:=by omega
    clear a7 a6;have b8:(j:Int)<(M:Int):=by omega
    obtain⟨d,hd⟩:∃ d:Nat,Y0 % (M - j)=d:=⟨_,rfl⟩;have bj:d<M - j:=by rw[<-hd];exact Mj _ (by omega)
    have wa:IntKind.i64.wrap (Y0:Int)=(Y0:Int):=IA _ (by omega);have ws:IntKind.i64.wrap ((M:Int) - (j:Int))=((M - j:Nat):Int):=by rw[IA _ (by omega)];omega
    have wz:(((M - j:Nat):Int)==0)=false:=ID.2 (by omega);have wm:(Y0:Int).tmod ((M - j:Nat):Int)=(d:Int):=by rw[Ji (by omega),<-hd];rfl
    have wd:IntKind.i64.wrap (d:Int)=(d:Int):=IA _ (by omega);obtain⟨E,bi⟩:∃ E:Nat,j+d=E:=⟨_,rfl⟩;have wk:IntKind.i64.wrap ((j:Int)+(d:Int))=(E:Int):=by rw[IA _ (by omega)];omega
    have ad:E<M:=by omega
    have av:j<=E:=by omega
    have b6:(E:Int)<(M:Int):=by omega
    have b7:¬(E:Int)<0:=by omega
    have aD:=Lib.hid (IC ad av);obtain⟨D,hD⟩:∃ D,M - j=D:=⟨_,rfl⟩;rw[hD] at ws wz wm;have bX:¬(D:Int)=0:=by omega
    clear hd bj bi hD hj;obtain⟨d0,d1,d2⟩:=a9.out wr T.out;obtain⟨c2,c3⟩:=an.out _ (T.out.alloc (.cells #[] 74));have HV:Hid (SE bJ (λg=>some g=(Value.slice (some ⟨wr.heap.size,0,none⟩) 0 0).ownBlock\/noB g) (wr.alloc (.cells #[] 74)) (.slice (some ⟨bs,os,none⟩) M g4) V.step):=
     (SZ.step ((aH.kp PP.out.step T.out).sz.olds) (aj.of_kp ((Kp.refl wr).alloc _))).1.mono λg hg=>hg.elim (λe=>by simp[Value.ownBlock] at e;exact .inr (by omega)) λh=>h.elim
    obtain⟨q,hq⟩:∃ q:Nat,Y1 % 32=q:=⟨_,rfl⟩;have aL:q<32:=by rw[<-hq];exact Mj _ (by decide)
    have va:IntKind.i64.wrap (Y1:Int)=(Y1:Int):=IA _ (by omega);have vm:(Y1:Int).tmod 32=(q:Int):=by rw[Ji (by omega),<-hq];rfl
    have vd:IntKind.i64.wrap (q:Int)=(q:Int):=IA _ (by omega);have bZ:(q:Int)<32:=by omega
    have b0:¬(q:Int)<0:=by omega
    obtain⟨cx,aR,af⟩:=yH Y2 a8;obtain⟨Z2,ah⟩:∃ z:Int,((Y2 % 255:Nat):Int)=z:=⟨_,rfl⟩;rw[ah] at af;have um:(Y2:Int).tmod 255=Z2:=by rw[Ji (by omega),<-ah];rfl
    have uw:IntKind.u8.wrap Z2=Z2:=by rw[<-ah,JQ];omega
    have uc:IntKind.u8.wrap (1+Z2)=(cx.toNat:Int):=by
     rw[<-af,JQ];have:=cx.toNat_lt;omega
    have ab:=aM.out E ad;have ae:=yG cx (l:=(am V.step E).pub) (k:=q) (by omega) aR;have au:=da ((am V.step E).pub.getD q 0) cx;obtain⟨P0,ay⟩:∃ P0:UInt8,(am V.step E).pub.getD q 0=P0:=⟨_,rfl⟩;obtain⟨P1,aS⟩:∃ P1:UInt8,P0 ^^^ cx=P1:=⟨_,rfl⟩;rw[ay] at ae au;rw[aS] at ae au;obtain⟨CX,aT⟩:∃ z:Int,(cx.toNat:Int)=z:=⟨_,rfl⟩;rw[aT] at uc au;obtain⟨R,J⟩:∃ l,(am V.step E).pub=l:=⟨_,rfl⟩;have aV:Hid (∀ W x y,Kp w W->PIn W x y (fI V E (R.set q P1))->Calls prog 23 #[.slice a N c,.int .i64 (k:Int),.int .i64 (m:Int),.slice ao no co,.slice none 0 0,.agg #[x,y]] W λe w'=>(∃ v,e=.returned (.tuple #[v,.int .i64 5])/\MV w' v dI)/\Kp W w'):=ar.out E (R.set q P1) av ad (by rw[IW,<-J];exact ab) (by rw[<-J];exact ae);have bC:Hid (∀ W B v,Ow 5 W B v R->∃ P cP,v=.slice (some ⟨P,0,none⟩) 32 cP/\B<=P/\P<W.heap.size/\W.cell? ⟨P,q,none⟩=some (.int .u8 (P0.toNat:Int))/\W.frozen? ⟨P,q,none⟩=false):=λW B v h=>by
     have hl:R.length=32:=by rw[<-J];exact ab
     rcases h.shape with⟨_,e⟩|⟨g',c',e,h1,h2,_⟩
     ·rw[e] at hl;cases hl
     ·rw[hl] at e
      subst e;obtain⟨b',bF,e2,_,hc⟩:=h.rd.at q (by omega);simp only[Jo,JY,and_true] at e2;obtain⟨rfl,rfl⟩:=e2;have:=hc q (by omega);rw[<-J,ay,JA] at this;exact⟨g',c',rfl,h1,h2,this,World.ownsRow.frozenAt (by unfold Ow at h;rw[hl] at h;exact h) q⟩
    have aC:Hid ((am V.step E).pub=R/\R.length=32):=⟨J,by rw[<-J];exact ab⟩;have U:=ag;have HQ:=Lib.hid af;clear hq aL aR af ah ab ae ay aS aT J ar aM bO bN a8 ad av;go_wp2_with(first
     | (at_builtin;refine gQ (o:=⟨some 127,_,_,_,_,_⟩) (S:=bJ) (Z:=noB) stK rfl _ _ rfl wr.heap.size _ [] rfl (GZ.empty _ wr) _ V.step rfl HV.out (by rw[O.out];simp;omega) (by simp) ?_;intro vS wE oS g' _;rw[Js] at oS;have kE:Kp wr wE:=Kp.grown (v:=.slice (some ⟨wr.heap.size,0,none⟩) 0 0) ((Kp.refl _).alloc _) g' (by intro k Q;simp[Value.ownBlock] at Q;omega);obtain⟨gS,cS,aI,aO,aP,_,_,_⟩:=oS.form (by rw[O.out];omega);rw[O.out] at aI;subst aI;obtain⟨xP,nP,dP,j0,j1,j2⟩:=pK oS E (by rw[O.out];exact aD.out.1);rw[aC.out.1] at j2;obtain rfl:nP=32:=j2.len.1.trans aC.out.2;have j3:=Kp.cell ((Kp.refl wE).alloc (.cells #[] 5)) j0;have KE:=Lib.hid kE;have OS:=Lib.hid oS;have a1:=Lib.hid (IC aO aP);have RP:=Lib.hid j2;clear g' kE oS aO aP j2)
     | (at_builtin;refine cj (o:=⟨some 148,_,_,_,_,_⟩) U rfl _ _ rfl wE.heap.size _ [] rfl (Ow.lit wE 5 wE.heap.size 0 #[] [] (IB _) rfl (by decide) rfl) _ R rfl (RP.out.kp ((Kp.refl _).alloc _)) (by rw[aC.out.2];simp) (by simp) ?_;intro v6 w6 o6 g6 _;rw[Js] at o6;have k6:Kp wE w6:=Kp.grown (v:=.slice (some ⟨wE.heap.size,0,none⟩) 0 0) ((Kp.refl _).alloc _) g6 (by intro k Q;simp[Value.ownBlock] at Q;omega);obtain⟨P,cP,be,aq,ap,p6,q6⟩:=bC.out w6 _ v6 o6;subst be;obtain⟨f0,f1,f2⟩:=a9.out _ ((T.out.trans KE.out).trans k6);have K6:=Lib.hid k6;have O6:=Lib.hid o6;have a2:=Lib.hid (IC aq ap);clear k6 o6 g6 aq ap j0 j1 j3))
    go_region
    obtain⟨w7,aa⟩:∃ x,(w6.setCell ⟨P,q,none⟩ (.int .u8 (P1.toNat:Int))).drew=x:=⟨_,rfl⟩;have K7:Hid (Kp wE w7):=by unfold Hid;rw[<-aa];exact(K6.out.setNew a2.out.1 _).drew
    have O7:Hid (Rd w7 (.slice (some ⟨P,0,none⟩) 32 cP) (R.set q P1)):=by unfold Hid;rw[<-aa];exact(O6.out.put11 P1).rd.kp (Kp.refl _).drew
    have ax:=OS.out.kp K7.out;obtain⟨x8,n8,d8,j0,j1,_⟩:=pK ax E (by rw[O.out];exact aD.out.1);obtain⟨s8,t8⟩:=yF ax E (by rw[O.out];exact aD.out.1) (.slice (some ⟨P,0,none⟩) 32 cP) (R.set q P1) ⟨O7.out,λx n c e h0 Q=>by
     simp only[IG,Jo] at e;obtain⟨rfl,_⟩:=e;rcases Q with Q|Q
     ·have:=a2.out.1
      have:=a1.out.2;have Q:P=gS:=Q;omega
     ·exact Q⟩
    obtain⟨w8,Y⟩:∃ x,w7.setCell ⟨gS,E*2,none⟩ (.slice (some ⟨P,0,none⟩) 32 cP)=x:=⟨_,rfl⟩;have K8:Hid (Kp wA w8):=by unfold Hid;rw[<-Y];exact T.out.trans ((KE.out.trans K7.out).setNew a1.out.1 _)
    rw[Y] at s8;have P8:Hid (PIn w8 (.slice b3 e3 g3) (.slice (some ⟨gS,0,none⟩) M cS) (fI V E (R.set q P1))):=⟨PP.out.pub.kp K8.out,s8.gl⟩;obtain⟨bq,bp⟩:=an.out w8 K8.out;have aU:=Lib.hid (H.out.trans K8.out);rw[aa];clear aa ax s8 t8 c2 c3 d0 d1 d2 p6 q6 f0 f1 f2 O6 O7 OS HV RP;go_wp2_with fail;try rw[Y]
    clear Y j0 j1 bq bp;refine(aV.out w8 _ _ aU.out P8.out).mono ?_;rintro _ wT ⟨⟨v,rfl,tT,oT,xT,yT,lT,rfl,mT⟩,kT⟩;obtain⟨p1,q1,e,_,_⟩:=NL.shape (show NL wT tT [] from mT.tree);have e:tT=.slice p1 0 q1:=e;subst e;obtain⟨p2,n2,q2,rfl⟩:=SE.sl mT.own;obtain⟨aW,n3,q3,rfl⟩:=aA mT.path.pub;obtain⟨p4,n4,q4,rfl⟩:=SE.sl mT.path.step;obtain⟨p5,n5,q5,rfl⟩:=aA mT.last;have KT:=Lib.hid (K8.out.trans kT);clear kT mT P8 K8 aU aV;obtain⟨f,X⟩:∃ x,wT.alloc (.cells #[.slice p1 0 q1,.slice p2 n2 q2,.slice aW n3 q3,.slice p4 n4 q4,.slice p5 n5 q5] 47)=x:=⟨_,rfl⟩;have a3:Hid (Bx f wT.heap.size 47 #[.slice p1 0 q1,.slice p2 n2 q2,.slice aW n3 q3,.slice p4 n4 q4,.slice p5 n5 q5]):=by unfold Hid;rw[<-X];exact Bx.new wT _ _
    have KU:Hid (Kp wA f):=by unfold Hid;rw[<-X];exact KT.out.trans ((Kp.refl _).alloc _)
    obtain⟨c2,c3⟩:=an.out f KU.out;go_wp2_with fail;try rw[X]
    clear X;have cb:(1:Int)<=(M:Int):=by omega
    have ca:(1:Int)<=(g4:Int):=by omega
    obtain⟨A1,ai⟩:∃ A:Option Addr,(if g4=1 then some ⟨bs,os,none⟩ else some ⟨bs,os+2,none⟩)=A:=⟨_,rfl⟩;have HD:Hid (∀ W,Kp wA W->PIn W (.slice b3 e3 g3) (.slice A1 (M - 1) (g4 - 1)) (jx V)):=λW C=>⟨PP.out.pub.kp C,SE.drop1 (aH.kp PP.out.step C) (by omega) A1 (λh=>by rw[<-ai,if_neg (by omega)];rfl) (λh=>by rw[h] at ai;split at ai <;> cases ai)⟩
    have KD:Hid (Kp f f.drew):=(Kp.refl f).drew;have ak:Hid (Kp f (f.alloc (.cells #[.slice none 0 0,.slice none 0 0,.slice none 0 0,.slice none 0 0,.slice none 0 0] 47)).drew):=((Kp.refl f).alloc _).drew;have br:Hid (Bx (f.alloc (.cells #[.slice none 0 0,.slice none 0 0,.slice none 0 0,.slice none 0 0,.slice none 0 0] 47)).drew f.heap.size 47 #[.slice none 0 0,.slice none 0 0,.slice none 0 0,.slice none 0 0,.slice none 0 0]):=(Bx.new f _ _).kp (Kp.refl _).drew;have L:Hid (∀ W,Kp f W->W.cell? ⟨w9.heap.size,2,none⟩=some (.slice b3 e3 g3)/\W.cell? ⟨w9.heap.size,3,none⟩=some (.slice (some ⟨bs,os,none⟩) M g4)):=λW C=>an.out W (KU.out.trans C)
    have bz:=Lib.hid (L.out _ KD.out);have S0:=Lib.hid (L.out _ ak.out);clear PP KT;go_region_held3 (λW=>W.cell? ⟨w9.heap.size,2,none⟩=some (.slice b3 e3 g3)/\W.cell? ⟨w9.heap.size,3,none⟩=some (.slice (some ⟨bs,os,none⟩) M g4))
     (first|with_reducible exact S0.out|with_reducible exact bz.out|with_reducible exact S2.out|with_reducible exact S3.out|with_reducible exact S4.out|with_reducible exact S5.out|fail)
     (first|(go_at_call 23;refine(bb.out _ _ _ (H.out.trans (KU.out.trans (by first|exact KD.out|exact ak.out))) (HD.out _ (KU.out.trans (by first|exact KD.out|exact ak.out)))).mono ?_;rintro _ wV ⟨⟨v,rfl,tV,oV,xV,yV,lV,rfl,mV⟩,kV⟩;obtain⟨r1,u1,v1,rfl⟩:=mV.tree.sl;obtain⟨r2,u2,v2,rfl⟩:=SE.sl mV.own;obtain⟨r3,u3,v3,rfl⟩:=aA mV.path.pub;obtain⟨r4,u4,v4,rfl⟩:=SE.sl mV.path.step;obtain⟨r5,v5,aB,_,_⟩:=Rd.shape (show Rd wV lV [] from mV.last);have aB:lV=.slice r5 0 v5:=aB;subst aB;have KV:Hid (Kp f wV):=(by first|exact KD.out.trans kV|exact ak.out.trans kV);have S2:=Lib.hid (L.out _ KV.out);have S3:=Lib.hid (L.out _ (KV.out.alloc (.cells #[.slice none 0 0,.slice none 0 0,.slice none 0 0,.slice none 0 0,.slice none 0 0] 47)));have S4:=Lib.hid (L.out _ (KV.out.alloc (.cells #[.slice r1 u1 v1,.slice r2 u2 v2,.slice r3 u3 v3,.slice r4 u4 v4,.slice r5 0 v5] 47)));(try (have G:Hid (Bx wV f.heap.size 47 #[.slice none 0 0,.slice none 0 0,.slice none 0 0,.slice none 0 0,.slice none 0 0]):=br.out.kp kV;have a0:=Lib.hid (pF G.out (.slice r1 u1 v1) (.slice r2 u2 v2) (.slice r3 u3 v3) (.slice r4 u4 v4) (.slice r5 0 v5));have K5:=Lib.hid (a0.out.2.2 f KV.out (IB _));have S5:=Lib.hid (L.out _ K5.out);have s:=G.out.there;have j0:=G.out.cell 0;have j1:=G.out.cell 1;have j2:=G.out.cell 2;have j3:=G.out.cell 3;have j4:=G.out.cell 4;have f0:=(s 0 (by decide)).2;have f1:=(s 1 (by decide)).2;have f2:=(s 2 (by decide)).2;have f3:=(s 3 (by decide)).2;have f4:=(s 4 (by decide)).2;clear s;rw[JA] at f0 f1 f2 f3 f4;simp only[IJ,IF,IK] at j0 j1 j2 j3 j4))))
    all_goals (
     clear S0 bz S2 S3 S4 c2 c3;try clear j0 j1 j2 j3 j4 f0 f1 f2 f3 f4
     first
      | (obtain⟨wF,F⟩:∃ x,wV.alloc (.cells #[.slice r1 u1 v1,.slice r2 u2 v2,.slice r3 u3 v3,.slice r4 u4 v4,.slice r5 0 v5] 47)=x:=⟨_,rfl⟩;have KF:Hid (Kp f wF):=(by unfold Hid;rw[<-F];exact KV.out.alloc _);have aE:Hid (Bx wF wV.heap.size 47 #[.slice r1 u1 v1,.slice r2 u2 v2,.slice r3 u3 v3,.slice r4 u4 v4,.slice r5 0 v5]):=(by unfold Hid;rw[<-F];exact Bx.new wV _ _);rw[F];have x0:=(a3.out.kp KF.out).cell 0;have y4:=aE.out.cell 4;simp only[IJ,IF,IK] at x0 y4;have KE:=Lib.hid (H.out.trans (KU.out.trans KF.out));clear F;go_wp2_with fail;go_ret;exact⟨rfl,KE.out⟩)
      | (obtain⟨wF,F⟩:∃ x,(((((wV.setCell ⟨f.heap.size,0,none⟩ (.slice r1 u1 v1)).setCell ⟨f.heap.size,1,none⟩ (.slice r2 u2 v2)).setCell ⟨f.heap.size,2,none⟩ (.slice r3 u3 v3)).setCell ⟨f.heap.size,3,none⟩ (.slice r4 u4 v4)).setCell ⟨f.heap.size,4,none⟩ (.slice r5 0 v5))=x:=⟨_,rfl⟩;have KF:Hid (Kp f wF):=(by unfold Hid;rw[<-F];exact K5.out);have aE:Hid (Bx wF f.heap.size 47 #[.slice r1 u1 v1,.slice r2 u2 v2,.slice r3 u3 v3,.slice r4 u4 v4,.slice r5 0 v5]):=(by unfold Hid;rw[<-F];exact a0.out.1);rw[F];have x0:=(a3.out.kp KF.out).cell 0;have y4:=aE.out.cell 4;simp only[IJ,IF,IK] at x0 y4;have KE:=Lib.hid (H.out.trans (KU.out.trans KF.out));clear F;go_wp2_with fail;go_ret;exact⟨rfl,KE.out⟩))
 ·rw[IS s]
  clear s;go_wp2_with fail;go_ret;exact⟨rfl,H.out⟩
theorem Io (f g:Value)(t:List Nod)(i me:Int)(own:List Sd)(n e d c:Int)(w:World)(j:NL w f t)(l:SL w g own)(m:0<=n/\n<=255)(q:0<=e/\e<=255)(p:0<=d/\d<=255)(o:0<=c/\c<=255)(a:Tab w):
  Calls prog 7 #[.agg #[f,.int .i64 i,.int .i64 me,g,.int .u8 n,.int .u8 e,.int .u8 d,.int .u8 c]] w (Yes w):=by
 have key:∀ z:Int,0<=z/\z<=255->∃ b:UInt8,(b.toNat:Int)=z:=λz h=>by
  obtain⟨k,rfl⟩:=IR h.1;refine⟨UInt8.ofNat k,?_⟩;have:(UInt8.ofNat k).toNat=k:=by simp;omega
  rw[this]
 obtain⟨b,rfl⟩:=key n m;obtain⟨u,rfl⟩:=key e q;obtain⟨s,rfl⟩:=key d p;obtain⟨r,rfl⟩:=key c o;exact Im f g t i me own b u s r w j l a

import Derived.Test.YthmhklmkgkfcpaaGreatDoorV5
set_option linter.all false
set_option maxHeartbeats 8000000
set_option maxRecDepth 100000
namespace Go.Proofs.YthmhklmkgkfcpaaGreatDoor
open Go.Proofs.Tryz Go.RowKit Go.Shelf
variable {A w:World}{X:Nat->Prop}{g:Nat}{l:List UInt8}{v:Value}
attribute [local go_sem] Oper.semAt_some
theorem mb (h:bc X A w)(a:X g)(k j i f e d c b:Value):
  bc X A ((((((((w.setCell ⟨g,0,none⟩ k).setCell ⟨g,1,none⟩ j).setCell ⟨g,2,none⟩ i).setCell ⟨g,3,none⟩ f).setCell ⟨g,4,none⟩ e).setCell ⟨g,5,none⟩ d).setCell ⟨g,6,none⟩ c).setCell ⟨g,7,none⟩ b):=
 (((((((h.setCell ⟨g,0,none⟩ k a).setCell ⟨g,1,none⟩ j a).setCell ⟨g,2,none⟩ i a).setCell ⟨g,3,none⟩ f a).setCell ⟨g,4,none⟩ e a).setCell ⟨g,5,none⟩ d a).setCell ⟨g,6,none⟩ c a).setCell ⟨g,7,none⟩ b a
theorem mc {T:TypeId}{k:Nat}{l:List UInt32}(h:Arr T w k l)(a:k≠g)(m j i f e d c b:Value):
  Arr T ((((((((w.setCell ⟨g,0,none⟩ m).setCell ⟨g,1,none⟩ j).setCell ⟨g,2,none⟩ i).setCell ⟨g,3,none⟩ f).setCell ⟨g,4,none⟩ e).setCell ⟨g,5,none⟩ d).setCell ⟨g,6,none⟩ c).setCell ⟨g,7,none⟩ b) k l:=
 (((((((h.other ⟨g,0,none⟩ m a).other ⟨g,1,none⟩ j a).other ⟨g,2,none⟩ i a).other ⟨g,3,none⟩ f a).other ⟨g,4,none⟩ e a).other ⟨g,5,none⟩ d a).other ⟨g,6,none⟩ c a).other ⟨g,7,none⟩ b a
theorem tQ (w:World)(T:TypeId)(x y:Value):(w.alloc (.cells #[x,y] T)).cell? ⟨w.heap.size,0,none⟩=some x:=by rw[cell_of_row _ _ 0 _ _ _ (heap_alloc_new w _)];rfl
theorem tR (w:World)(T:TypeId)(x y:Value):(w.alloc (.cells #[x,y] T)).cell? ⟨w.heap.size,1,none⟩=some y:=by rw[cell_of_row _ _ 1 _ _ _ (heap_alloc_new w _)];rfl
theorem jj {e:TypeId}{B:Nat}(h:Ow e w B v l){D:Nat}(j:D<B)(o:Obj):Ow e (w.putObj D o) B v l:=by
 refine⟨h.1,?_⟩;rcases h.2 with d|⟨g,b,a,c,i,f,rest⟩
 ·exact .inl d
 ·exact .inr ⟨g,b,a,c,i,(World.putObj_heap_other (by omega)).trans f,rest⟩
theorem oD (w:World)(D:Nat)(o:Obj):(w.putObj D o).heap.size=w.heap.size:=by
 simp[World.putObj]
theorem oF {B:World}(h:Rd A v l)(n:bc X A B)(m:∀ b o c,v=.slice (some ⟨b,o,none⟩) l.length c->¬X b):Rd B v l:=by
 obtain⟨a,c,rfl,s,r,q,k⟩:=h;refine⟨a,c,rfl,s,r,q,λx e i p=>?_⟩;have j:=k x e i p;subst e;obtain⟨b,o,d⟩:=x;have g:=Lu (k _ rfl 0 (by omega));have f:d=none:=by simpa [Addr.add] using g
 subst f;exact(KX (w:=A) (n.block _ (Jb A _ j) (by
  have:((⟨b,o,none⟩:Addr).add i).block=b:=by unfold Addr.add;split <;> rfl
  rw[this];exact m b o c rfl))).trans j
theorem mf {a:Option Addr}{n c:Nat}(h:Rd w (.slice a n c) l)(i:Nat)(g:64*i+64<=n):Rd w (cM a i) ((l.drop (64*i)).take 64):=by
 obtain⟨b,o,rfl,_,_⟩:=h.at 0 (by omega);obtain⟨p,f,j⟩:=h.len;have k:=h.cutAt (64*i) 64 g (by omega);obtain⟨u,t,e,s,r,q,m⟩:=k;have d:((l.drop (64*i)).take 64).length=64:=by simp;omega
 simp only[IG] at e;obtain⟨rfl,_,rfl⟩:=e;exact⟨some ⟨b,o+64*i,none⟩,64,by rw[d];rfl,by rw[d];exact IB _,by unfold maxLen;omega,λh=>(by cases h),m⟩
theorem tU (v:Value)(l:List UInt8)(w:World)(h:Rd w v l)(hl:l.length<=2000):
  Calls prog 211 #[v] w λe w'=>(∃ v',e=.returned v'/\Ow 5 w' w.heap.size v' (bH l))/\Kp w w':=by
 have U:=ag;obtain⟨a,c,rfl,h1,h2⟩:=h.shape;unfold maxLen at h2;obtain⟨N,hN⟩:∃ N,l.length / 64=N:=⟨_,rfl⟩;have bu:(l.length:Int) - (l.length:Int) % 64=64*(N:Int):=by omega
 have bC:(l.length:Int) - (l.length:Int).tmod 64=64*(N:Int):=by rw[Ji (by omega)];exact bu
 have aS:64*N<=l.length:=by omega
 have HN:=Lib.hid hN;clear hN;refine(callsIn_wide (n:=6)).1 ?_;refine callsIn_of_wp_marks func211 rfl trivial ?_ rfl;refine wpIn_wide.2 ?_;simp only[ntmps211,JE,JF,Jf,Jq,Nat.reduceAdd,Nat.reduceSub,JB,JC,JM,Js,JG];go_wp2_with fail;refine(Aw _).mono ?_;rintro e w1 ⟨rfl,bp⟩;go_wp2_with(refine gV (by kernel_rfl) rfl rfl (.tmp 3) (.tmp 8) rfl w1.heap.size (aZ 64) cG rfl rfl (Arr.new _ _ _ _ rfl) (gX 64) rfl ?_;intro w2 br a3)
 have a0:Kp w w2:=a3.below (bp.alloc _) bp.size;clear a3;refine(Az _).mono ?_;rintro e S ⟨rfl,a7⟩;have aU:=br.kp a7;have aL:Kp w S:=a0.trans a7;clear br a0 a7;go_wp2_with(refine gV (by kernel_rfl) rfl rfl (.tmp 4) (.tmp 9) rfl S.heap.size (aZ 8) df.list rfl rfl (Arr.new _ _ _ _ rfl) rfl rfl ?_;intro w4 bg aF)
 have bk:=aF.arr (aU.alloc _) (by have:=aU.lt;omega);have aY:Kp w w4:=aF.below (aL.alloc _) aL.size;have bD:=bk.lt;have bz:=bg.lt;have aQ:S.heap.size≠w1.heap.size:=by have:=aU.lt;omega
 have az:=aL.size;clear aF aU aL;refine(qE a (64*N) c w4).mono ?_;rintro e w5 ⟨rfl,aO⟩;have aT:Kp w4 w5:=by rw[<-aO];exact((Kp.refl _).alloc _).alloc _
 have bG:w5.heap.size=w4.heap.size+2:=by rw[<-aO];simp
 have O:w5.cell? ⟨w4.heap.size,0,none⟩=some (.slice a (64*N) c):=by
  rw[<-aO,cell_of_row _ _ 0 _ _ _ ((Below.heap_alloc _ _ _ (by simp)).trans (heap_alloc_new w4 _))];rfl
 have L:w5.cell? ⟨w4.heap.size+1,0,none⟩=some (.int .i64 64):=by
  have:=heap_alloc_new (w4.alloc (.cells #[.slice a (64*N) c] 24)) (.cells #[.int .i64 64] 3);rw[IQ,aO] at this;rw[cell_of_row _ _ 0 _ _ _ this];rfl
 have bj:=bk.kp aT;have bf:=bg.kp aT;have ay:Kp w w5:=aY.trans aT;clear aO bk bg aY aT;go_wp2_with fail;refine wpIn_wide.1 (kf (F:=Fence.wide) (n:=6) rfl (by omega) (gf:=266) (lb:=#[.pointer (some ⟨w4.heap.size,0,none⟩),.pointer (some ⟨w4.heap.size+1,0,none⟩)]) rfl trivial (enters_of func266 (by kernel_rfl) rfl) (encs:=λi=>#[cM a i]) (N:=N) (X:=λk=>k=S.heap.size) (by omega)
  (ma (6 - 1) (by omega) _ w5 a N c _ _ O L (λe=>by omega) (λe=>by omega) (by omega) (by unfold maxLen;omega) (λh0=>by obtain⟨b,o,e,_⟩:=h.at 0 (by omega);exact⟨b,o,e⟩)) (λ_=>rfl)
  (λi A=>Arr 252 A S.heap.size (bE df l i).list/\Arr 264 A w1.heap.size cG/\Kp w A)
  (λi A B h hb=>⟨h.1.below hb (by omega),h.2.1.below hb (by omega),Below.trans h.2.2 (hb.mono (by have:=ay.size;omega))⟩)
  ⟨bf,bj,ay⟩ ?a1 ?assign ?body ?done)
 case assign=>
  intro l' i W K hK;gi_wp2
  exact hK
 case body=>
  clear bf bj O L;rintro l' i W ⟨hR,hA,hK⟩ hi;have aX:Rd w (.slice a (64*N) c) (l.take (64*N)):=by
   by_cases h0:c=0
   ·have bA:l=[]:=IX (by omega)
    subst bA;have bB:64*N=0:=by simp at aS;omega
    rw[bB];simpa using h
   ·have:=h.cut 0 (64*N) (by omega) aS _ (64*N) c rfl rfl rfl
    rw[if_neg h0] at this;have e:a.map (λx=>x.add 0)=a:=by cases a <;> simp[Addr.add]
    simpa [e] using this
  have bm:=mf aX i (by omega);have bq:((l.take (64*N)).drop (64*i)).take 64=(l.drop (64*i)).take 64:=by
   rw[List.drop_take,List.take_take,LV (by omega)]
  rw[bq] at bm;have E:=ia df l i;have an:((l.drop (64*i)).take 64).length=64:=by simp;omega
  obtain⟨s,hs⟩:∃ s,bE df l i=s:=⟨_,rfl⟩;obtain⟨r,Y⟩:∃ r,bE df l (i+1)=r:=⟨_,rfl⟩;rw[Y] at E ⊢;rw[hs] at E hR;have HS:=Lib.hid (lX s (cM a i) ((l.drop (64*i)).take 64) w1.heap.size cG);rw[<-E] at HS;have HB:=Lib.hid an;obtain⟨c0,c1,c2,c3,c4,c5,c6,c7⟩:=hR.cells8;generalize cM a i=cv at *;clear hs Y E an bq aX;gi_wp2_with (refine⟨trivial,?_⟩;gi_at_call 248;refine(CallsIn.inRound l' (callsIn_wide.2 (HS.out _ (bm.kp hK) HB.out hA rfl))).mono ?_;rintro e R ⟨rfl,Z⟩;rw[lZ];have be:=hR.kp Z;obtain⟨e0,e1,e2,e3,e4,e5,e6,e7⟩:=be.cells8;obtain⟨f0,f1,f2,f3,f4,f5,f6,f7⟩:=be.frozen8)
  exact⟨mb (X:=λk=>k=S.heap.size) (bc.of_kp Z) rfl _ _ _ _ _ _ _ _,be.set8 r,mc (hA.kp Z) (Mt aQ) _ _ _ _ _ _ _ _,lY (hK.trans Z) az _ _ _ _ _ _ _ _⟩
 case done=>
  clear bf bj O L;rintro D W hD ⟨hR,hA,hK⟩ hd;obtain⟨s,hs⟩:∃ s,bE df l N=s:=⟨_,rfl⟩;rw[hs] at hR;have bn:=tK l.length hl;have bt:=Lib.hid bn;have aW:=Lib.hid hs;clear hs bn;obtain⟨t1,aP⟩:∃ t,l.drop (64*N)=t:=⟨_,rfl⟩;have bF:t1.length=l.length - 64*N:=by rw[<-aP];simp
  have HT:=Lib.hid aP;have aA:∃ a',Rd w (.slice a' (l.length - 64*N) (c - 64*N)) t1/\a'=(if c=64*N then a else a.map (·.add (64*N))):=by
   refine⟨_,?_,rfl⟩;have:=h.cut (64*N) l.length aS (IB _) _ (l.length - 64*N) (c - 64*N) rfl rfl rfl;rw[aP,Jm (by omega)] at this;exact this
  obtain⟨a',aA,aR⟩:=aA;have aM:=AR l N HN.out.symm;have am:=AQ l N ((l.drop (64*N)++pad l.length).length / 64) HN.out.symm aM;rw[aP] at aM am;obtain⟨T,bb⟩:∃ T,t1++pad l.length=T:=⟨_,rfl⟩;rw[bb] at aM am;obtain⟨M,hM⟩:∃ M,T.length / 64=M:=⟨_,rfl⟩;rw[hM] at aM am;have aN:=Lib.hid aM.symm;have bs:=Lib.hid bb;have aV:=Lib.hid am;clear aP aM am bb hM;by_cases a2:c=64*N
  ·subst a2
   rw[if_pos rfl] at aR;subst aR;rw[show l.length - 64*N=0 by omega,Lb] at aA;have hM:=kx l.length;have a8:=kw l.length;have bv:(pad l.length).length<=100:=by omega
   have bo:0<(pad l.length).length:=by omega
   clear hM a8;go_wp2_with fail;refine wp_region_noPanic ?_;go_region_with (first
    | (go_at_call 249;refine(tu _ _).mono ?_;rintro e w6 ⟨⟨vp,rfl,aq⟩,ai⟩;rw[bt.out] at aq;obtain⟨ap,cp,rfl,bx,bw⟩:=aq.shape)
    | (go_at_call 168;refine(tP w6.heap.size 2 _ _ t1 (pad l.length) _ (tQ _ _ _ _) (tR _ _ _ _) ((aA.kp ((hK.drew.trans ai).alloc _))) (aq.kp ((Kp.refl _).alloc _)) (by omega) (by omega)).mono ?_;rintro e R ⟨⟨vc,rfl,H⟩,Z⟩;rw[bs.out] at H;obtain⟨ac,cc,rfl,av,aB⟩:=H.rd.shape;rw[aN.out] at H av ⊢)
    | (go_at_call 247;refine(qE _ _ _ _).mono ?_;rintro e V ⟨rfl,C⟩))
   ·refine NoPanic.normal ?_
    have y:Kp R V:=by rw[<-C];exact((Kp.refl _).alloc _).alloc _
    have a6:V.heap.size=R.heap.size+2:=by rw[<-C];simp
    have O:V.cell? ⟨R.heap.size,0,none⟩=some (.slice ac (64*M) cc):=by
     rw[<-C,cell_of_row _ _ 0 _ _ _ ((Below.heap_alloc _ _ _ (by simp)).trans (heap_alloc_new R _))];rfl
    have L:V.cell? ⟨R.heap.size+1,0,none⟩=some (.int .i64 64):=by
     have:=heap_alloc_new (R.alloc (.cells #[.slice ac (64*M) cc] 24)) (.cells #[.int .i64 64] 3);rw[IQ,C] at this;rw[cell_of_row _ _ 0 _ _ _ this];rfl
    have u:Kp W V:=((((Kp.refl W).drew.trans ai).alloc _).trans Z).trans y;have ah:Rd V (.slice ac (64*M) cc) T:=H.rd.kp y;have P:=hR.kp u;have Q:=hA.kp u;have ax:Kp w V:=hK.trans u;have aj:=(u.block D (Iz.1 hd).1).trans hd;have bh:D<W.heap.size:=(Iz.1 hd).1;have ba:=u.size;have aH:=P.lt;have aI:=Q.lt;have bd:=hR.lt;have ao:=ai.size;have aC:=Z.size;have bl:W.heap.size<=R.heap.size:=by simp at ao aC;omega
    have m:∀ b o,ac=some ⟨b,o,none⟩->S.heap.size<b:=λb o e=>by
     have:=H.own_ge b (by rw[e];rfl);simp at this ao;omega
    have aJ:=Lib.hid m;clear H C ai Z aq y m;go_wp2_with fail;refine wpIn_wide.1 (kf (F:=Fence.wide) (n:=6) rfl (by omega) (gf:=266) (lb:=#[.pointer (some ⟨R.heap.size,0,none⟩),.pointer (some ⟨R.heap.size+1,0,none⟩)]) rfl trivial (enters_of func266 (by kernel_rfl) rfl) (encs:=λi=>#[cM ac i]) (N:=M) (X:=λk=>k=S.heap.size) (by omega)
     (ma (6 - 1) (by omega) _ V ac M cc _ _ O L (λe=>by omega) (λe=>by omega) av aB (λh0=>by obtain⟨b,o,e,_⟩:=ah.at 0 (by omega);exact⟨b,o,e⟩)) (λ_=>rfl)
     (λi A=>Arr 252 A S.heap.size (bE s T i).list/\Arr 264 A w1.heap.size cG/\Kp w A/\A.heap[D]?=some (.deferred (some []))/\bc (λk=>k=S.heap.size) V A)
     (λi A B h hb=>⟨h.1.below hb (by omega),h.2.1.below hb (by omega),Below.trans h.2.2.1 (hb.mono (by have:=ax.size;omega)),(hb.block D (by omega)).trans h.2.2.2.1,IU h.2.2.2.2.size hb.size,λk hk hn=>(hb.block k hk).trans (h.2.2.2.2.block k hk hn)⟩)
     ⟨P,Q,ax,aj,bc.refl _ _⟩ ?a11 ?assign1 ?body1 ?done21)
    case assign1=>
     intro l' i W K hK;gi_wp2
     exact hK
    case body1=>
     clear P Q O L aj;rintro l' i W9 ⟨q,al,z,J,G⟩ hi;obtain⟨sv,p⟩:∃ x,bE s T i=x:=⟨_,rfl⟩;obtain⟨r,Y⟩:∃ r,bE s T (i+1)=r:=⟨_,rfl⟩;have E:=ia s T i;have aG:=aN.out;have an:((T.drop (64*i)).take 64).length=64:=by rw[Ja,JK];omega
     obtain⟨b1,o1,aw,_⟩:=ah.at 0 (by omega);have a9:=aJ.out b1 o1 aw;have ar:Rd W9 (cM ac i) ((T.drop (64*i)).take 64):=oF (mf ah i (by omega)) G (λb o' c' e=>by rw[aw] at e;simp[cM] at e;omega);rw[Y,p] at E;rw[Y];rw[p] at q;have HS:=Lib.hid (lX sv (cM ac i) ((T.drop (64*i)).take 64) w1.heap.size cG);rw[<-E] at HS;have HB:=Lib.hid an;obtain⟨c0,c1,c2,c3,c4,c5,c6,c7⟩:=q.cells8;generalize cM ac i=cv at *;clear Y p E an aG;gi_wp2_with (refine⟨trivial,?_⟩;gi_at_call 248;refine(CallsIn.inRound l' (callsIn_wide.2 (HS.out _ ar HB.out al rfl))).mono ?_;rintro e wz ⟨rfl,j⟩;rw[lZ];have ak:=q.kp j;obtain⟨e0,e1,e2,e3,e4,e5,e6,e7⟩:=ak.cells8;obtain⟨f0,f1,f2,f3,f4,f5,f6,f7⟩:=ak.frozen8)
     have af:bc (λk=>k=S.heap.size) W9 _:=mb (X:=λk=>k=S.heap.size) (bc.of_kp j) (g:=S.heap.size) rfl (.int .u32 (aa r.a)) (.int .u32 (aa r.b)) (.int .u32 (aa r.c)) (.int .u32 (aa r.d)) (.int .u32 (aa r.e)) (.int .u32 (aa r.f)) (.int .u32 (aa r.g)) (.int .u32 (aa r.h));exact⟨af,ak.set8 r,mc (al.kp j) (Mt aQ) _ _ _ _ _ _ _ _,lY (z.trans j) az _ _ _ _ _ _ _ _,(af.block D (by have:=G.size;omega) (by omega)).trans J,G.trans af⟩
    case done21=>
     clear P Q O L aj;rintro D2 W9 bi ⟨q,al,z,J,G⟩ ab;have I:=aV.out;rw[aW.out] at I;obtain⟨sv,p⟩:∃ x,bE s T M=x:=⟨_,rfl⟩;rw[p] at q I;have aK:=Lib.hid I;have ae:D2<W9.heap.size:=(Iz.1 ab).1;have ad:D<W9.heap.size:=(Iz.1 J).1;clear p I;go_wp2_with(first
      | (refine iG underlying252 (by kernel_rfl) rfl (.tmp 4) rfl S.heap.size sv.list rfl q rfl ?_)
      | (go_at_call 250;refine(ox sv _).mono ?_;rintro e wz ⟨⟨vz,rfl,aD⟩,j⟩))
     have au:=(j.block D2 ae).trans ab;have aE:=(j.block D ad).trans J;refine⟨by simp,.inl ⟨_,_,rfl,run_takeDeferred au,?_⟩⟩;refine⟨by simp,.inl ⟨_,_,rfl,run_takeDeferred ((World.putObj_heap_other (by omega)).trans aE),?_⟩⟩;refine⟨_,results_tmp rfl _ _ _,⟨_,rfl,?_⟩,?_⟩
     ·rw[aK.out]
      exact(jj (jj aD ae _) ad _).mono z.size
     ·have a5:=z.size
      have a4:=j.size;exact iB (iB (z.trans j) (by omega) (by omega) _) (by have:=ay.size;omega) (by rw[oD];omega) _
   ·refine NoPanic.normal ?_
    have y:Kp R V:=by rw[<-C];exact((Kp.refl _).alloc _).alloc _
    have a6:V.heap.size=R.heap.size+2:=by rw[<-C];simp
    have O:V.cell? ⟨R.heap.size,0,none⟩=some (.slice ac (64*M) cc):=by
     rw[<-C,cell_of_row _ _ 0 _ _ _ ((Below.heap_alloc _ _ _ (by simp)).trans (heap_alloc_new R _))];rfl
    have L:V.cell? ⟨R.heap.size+1,0,none⟩=some (.int .i64 64):=by
     have:=heap_alloc_new (R.alloc (.cells #[.slice ac (64*M) cc] 24)) (.cells #[.int .i64 64] 3);rw[IQ,C] at this;rw[cell_of_row _ _ 0 _ _ _ this];rfl
    have u:Kp W V:=((((Kp.refl W).drew.trans ai).alloc _).trans Z).trans y;have ah:Rd V (.slice ac (64*M) cc) T:=H.rd.kp y;have P:=hR.kp u;have Q:=hA.kp u;have ax:Kp w V:=hK.trans u;have aj:=(u.block D (Iz.1 hd).1).trans hd;have bh:D<W.heap.size:=(Iz.1 hd).1;have ba:=u.size;have aH:=P.lt;have aI:=Q.lt;have bd:=hR.lt;have ao:=ai.size;have aC:=Z.size;have bl:W.heap.size<=R.heap.size:=by simp at ao aC;omega
    have m:∀ b o,ac=some ⟨b,o,none⟩->S.heap.size<b:=λb o e=>by
     have:=H.own_ge b (by rw[e];rfl);simp at this ao;omega
    have aJ:=Lib.hid m;clear H C ai Z aq y m;go_wp2_with fail;refine wpIn_wide.1 (kf (F:=Fence.wide) (n:=6) rfl (by omega) (gf:=266) (lb:=#[.pointer (some ⟨R.heap.size,0,none⟩),.pointer (some ⟨R.heap.size+1,0,none⟩)]) rfl trivial (enters_of func266 (by kernel_rfl) rfl) (encs:=λi=>#[cM ac i]) (N:=M) (X:=λk=>k=S.heap.size) (by omega)
     (ma (6 - 1) (by omega) _ V ac M cc _ _ O L (λe=>by omega) (λe=>by omega) av aB (λh0=>by obtain⟨b,o,e,_⟩:=ah.at 0 (by omega);exact⟨b,o,e⟩)) (λ_=>rfl)
     (λi A=>Arr 252 A S.heap.size (bE s T i).list/\Arr 264 A w1.heap.size cG/\Kp w A/\A.heap[D]?=some (.deferred (some []))/\bc (λk=>k=S.heap.size) V A)
     (λi A B h hb=>⟨h.1.below hb (by omega),h.2.1.below hb (by omega),Below.trans h.2.2.1 (hb.mono (by have:=ax.size;omega)),(hb.block D (by omega)).trans h.2.2.2.1,IU h.2.2.2.2.size hb.size,λk hk hn=>(hb.block k hk).trans (h.2.2.2.2.block k hk hn)⟩)
     ⟨P,Q,ax,aj,bc.refl _ _⟩ ?a12 ?assign2 ?body2 ?done22)
    case assign2=>
     intro l' i W K hK;gi_wp2
     exact hK
    case body2=>
     clear P Q O L aj;rintro l' i W9 ⟨q,al,z,J,G⟩ hi;obtain⟨sv,p⟩:∃ x,bE s T i=x:=⟨_,rfl⟩;obtain⟨r,Y⟩:∃ r,bE s T (i+1)=r:=⟨_,rfl⟩;have E:=ia s T i;have aG:=aN.out;have an:((T.drop (64*i)).take 64).length=64:=by rw[Ja,JK];omega
     obtain⟨b1,o1,aw,_⟩:=ah.at 0 (by omega);have a9:=aJ.out b1 o1 aw;have ar:Rd W9 (cM ac i) ((T.drop (64*i)).take 64):=oF (mf ah i (by omega)) G (λb o' c' e=>by rw[aw] at e;simp[cM] at e;omega);rw[Y,p] at E;rw[Y];rw[p] at q;have HS:=Lib.hid (lX sv (cM ac i) ((T.drop (64*i)).take 64) w1.heap.size cG);rw[<-E] at HS;have HB:=Lib.hid an;obtain⟨c0,c1,c2,c3,c4,c5,c6,c7⟩:=q.cells8;generalize cM ac i=cv at *;clear Y p E an aG;gi_wp2_with (refine⟨trivial,?_⟩;gi_at_call 248;refine(CallsIn.inRound l' (callsIn_wide.2 (HS.out _ ar HB.out al rfl))).mono ?_;rintro e wz ⟨rfl,j⟩;rw[lZ];have ak:=q.kp j;obtain⟨e0,e1,e2,e3,e4,e5,e6,e7⟩:=ak.cells8;obtain⟨f0,f1,f2,f3,f4,f5,f6,f7⟩:=ak.frozen8)
     have af:bc (λk=>k=S.heap.size) W9 _:=mb (X:=λk=>k=S.heap.size) (bc.of_kp j) (g:=S.heap.size) rfl (.int .u32 (aa r.a)) (.int .u32 (aa r.b)) (.int .u32 (aa r.c)) (.int .u32 (aa r.d)) (.int .u32 (aa r.e)) (.int .u32 (aa r.f)) (.int .u32 (aa r.g)) (.int .u32 (aa r.h));exact⟨af,ak.set8 r,mc (al.kp j) (Mt aQ) _ _ _ _ _ _ _ _,lY (z.trans j) az _ _ _ _ _ _ _ _,(af.block D (by have:=G.size;omega) (by omega)).trans J,G.trans af⟩
    case done22=>
     clear P Q O L aj;rintro D2 W9 bi ⟨q,al,z,J,G⟩ ab;have I:=aV.out;rw[aW.out] at I;obtain⟨sv,p⟩:∃ x,bE s T M=x:=⟨_,rfl⟩;rw[p] at q I;have aK:=Lib.hid I;have ae:D2<W9.heap.size:=(Iz.1 ab).1;have ad:D<W9.heap.size:=(Iz.1 J).1;clear p I;go_wp2_with(first
      | (refine iG underlying252 (by kernel_rfl) rfl (.tmp 4) rfl S.heap.size sv.list rfl q rfl ?_)
      | (go_at_call 250;refine(ox sv _).mono ?_;rintro e wz ⟨⟨vz,rfl,aD⟩,j⟩))
     have au:=(j.block D2 ae).trans ab;have aE:=(j.block D ad).trans J;refine⟨by simp,.inl ⟨_,_,rfl,run_takeDeferred au,?_⟩⟩;refine⟨by simp,.inl ⟨_,_,rfl,run_takeDeferred ((World.putObj_heap_other (by omega)).trans aE),?_⟩⟩;refine⟨_,results_tmp rfl _ _ _,⟨_,rfl,?_⟩,?_⟩
     ·rw[aK.out]
      exact(jj (jj aD ae _) ad _).mono z.size
     ·have a5:=z.size
      have a4:=j.size;exact iB (iB (z.trans j) (by omega) (by omega) _) (by have:=ay.size;omega) (by rw[oD];omega) _
  ·rw[if_neg a2] at aR
   cases a with
   | none=>
    obtain⟨_,_,e,_,_,h3,_⟩:=h;cases e;have:=h3 rfl;omega
   | some x=>
   simp only[Option.map_some] at aR;subst aR;have hM:=kx l.length;have a8:=kw l.length;have bv:(pad l.length).length<=100:=by omega
   have bo:0<(pad l.length).length:=by omega
   clear hM a8;go_wp2_with fail;refine wp_region_noPanic ?_;go_region_with (first
    | (go_at_call 249;refine(tu _ _).mono ?_;rintro e w6 ⟨⟨vp,rfl,aq⟩,ai⟩;rw[bt.out] at aq;obtain⟨ap,cp,rfl,bx,bw⟩:=aq.shape)
    | (go_at_call 168;refine(tP w6.heap.size 2 _ _ t1 (pad l.length) _ (tQ _ _ _ _) (tR _ _ _ _) ((aA.kp ((hK.drew.trans ai).alloc _))) (aq.kp ((Kp.refl _).alloc _)) (by omega) (by omega)).mono ?_;rintro e R ⟨⟨vc,rfl,H⟩,Z⟩;rw[bs.out] at H;obtain⟨ac,cc,rfl,av,aB⟩:=H.rd.shape;rw[aN.out] at H av ⊢)
    | (go_at_call 247;refine(qE _ _ _ _).mono ?_;rintro e V ⟨rfl,C⟩))
   ·refine NoPanic.normal ?_
    have y:Kp R V:=by rw[<-C];exact((Kp.refl _).alloc _).alloc _
    have a6:V.heap.size=R.heap.size+2:=by rw[<-C];simp
    have O:V.cell? ⟨R.heap.size,0,none⟩=some (.slice ac (64*M) cc):=by
     rw[<-C,cell_of_row _ _ 0 _ _ _ ((Below.heap_alloc _ _ _ (by simp)).trans (heap_alloc_new R _))];rfl
    have L:V.cell? ⟨R.heap.size+1,0,none⟩=some (.int .i64 64):=by
     have:=heap_alloc_new (R.alloc (.cells #[.slice ac (64*M) cc] 24)) (.cells #[.int .i64 64] 3);rw[IQ,C] at this;rw[cell_of_row _ _ 0 _ _ _ this];rfl
    have u:Kp W V:=((((Kp.refl W).drew.trans ai).alloc _).trans Z).trans y;have ah:Rd V (.slice ac (64*M) cc) T:=H.rd.kp y;have P:=hR.kp u;have Q:=hA.kp u;have ax:Kp w V:=hK.trans u;have aj:=(u.block D (Iz.1 hd).1).trans hd;have bh:D<W.heap.size:=(Iz.1 hd).1;have ba:=u.size;have aH:=P.lt;have aI:=Q.lt;have bd:=hR.lt;have ao:=ai.size;have aC:=Z.size;have bl:W.heap.size<=R.heap.size:=by simp at ao aC;omega
    have m:∀ b o,ac=some ⟨b,o,none⟩->S.heap.size<b:=λb o e=>by
     have:=H.own_ge b (by rw[e];rfl);simp at this ao;omega
    have aJ:=Lib.hid m;clear H C ai Z aq y m;go_wp2_with fail;refine wpIn_wide.1 (kf (F:=Fence.wide) (n:=6) rfl (by omega) (gf:=266) (lb:=#[.pointer (some ⟨R.heap.size,0,none⟩),.pointer (some ⟨R.heap.size+1,0,none⟩)]) rfl trivial (enters_of func266 (by kernel_rfl) rfl) (encs:=λi=>#[cM ac i]) (N:=M) (X:=λk=>k=S.heap.size) (by omega)
     (ma (6 - 1) (by omega) _ V ac M cc _ _ O L (λe=>by omega) (λe=>by omega) av aB (λh0=>by obtain⟨b,o,e,_⟩:=ah.at 0 (by omega);exact⟨b,o,e⟩)) (λ_=>rfl)
     (λi A=>Arr 252 A S.heap.size (bE s T i).list/\Arr 264 A w1.heap.size cG/\Kp w A/\A.heap[D]?=some (.deferred (some []))/\bc (λk=>k=S.heap.size) V A)
     (λi A B h hb=>⟨h.1.below hb (by omega),h.2.1.below hb (by omega),Below.trans h.2.2.1 (hb.mono (by have:=ax.size;omega)),(hb.block D (by omega)).trans h.2.2.2.1,IU h.2.2.2.2.size hb.size,λk hk hn=>(hb.block k hk).trans (h.2.2.2.2.block k hk hn)⟩)
     ⟨P,Q,ax,aj,bc.refl _ _⟩ ?a13 ?assign3 ?body3 ?done23)
    case assign3=>
     intro l' i W K hK;gi_wp2
     exact hK
    case body3=>
     clear P Q O L aj;rintro l' i W9 ⟨q,al,z,J,G⟩ hi;obtain⟨sv,p⟩:∃ x,bE s T i=x:=⟨_,rfl⟩;obtain⟨r,Y⟩:∃ r,bE s T (i+1)=r:=⟨_,rfl⟩;have E:=ia s T i;have aG:=aN.out;have an:((T.drop (64*i)).take 64).length=64:=by rw[Ja,JK];omega
     obtain⟨b1,o1,aw,_⟩:=ah.at 0 (by omega);have a9:=aJ.out b1 o1 aw;have ar:Rd W9 (cM ac i) ((T.drop (64*i)).take 64):=oF (mf ah i (by omega)) G (λb o' c' e=>by rw[aw] at e;simp[cM] at e;omega);rw[Y,p] at E;rw[Y];rw[p] at q;have HS:=Lib.hid (lX sv (cM ac i) ((T.drop (64*i)).take 64) w1.heap.size cG);rw[<-E] at HS;have HB:=Lib.hid an;obtain⟨c0,c1,c2,c3,c4,c5,c6,c7⟩:=q.cells8;generalize cM ac i=cv at *;clear Y p E an aG;gi_wp2_with (refine⟨trivial,?_⟩;gi_at_call 248;refine(CallsIn.inRound l' (callsIn_wide.2 (HS.out _ ar HB.out al rfl))).mono ?_;rintro e wz ⟨rfl,j⟩;rw[lZ];have ak:=q.kp j;obtain⟨e0,e1,e2,e3,e4,e5,e6,e7⟩:=ak.cells8;obtain⟨f0,f1,f2,f3,f4,f5,f6,f7⟩:=ak.frozen8)
     have af:bc (λk=>k=S.heap.size) W9 _:=mb (X:=λk=>k=S.heap.size) (bc.of_kp j) (g:=S.heap.size) rfl (.int .u32 (aa r.a)) (.int .u32 (aa r.b)) (.int .u32 (aa r.c)) (.int .u32 (aa r.d)) (.int .u32 (aa r.e)) (.int .u32 (aa r.f)) (.int .u32 (aa r.g)) (.int .u32 (aa r.h));exact⟨af,ak.set8 r,mc (al.kp j) (Mt aQ) _ _ _ _ _ _ _ _,lY (z.trans j) az _ _ _ _ _ _ _ _,(af.block D (by have:=G.size;omega) (by omega)).trans J,G.trans af⟩
    case done23=>
     clear P Q O L aj;rintro D2 W9 bi ⟨q,al,z,J,G⟩ ab;have I:=aV.out;rw[aW.out] at I;obtain⟨sv,p⟩:∃ x,bE s T M=x:=⟨_,rfl⟩;rw[p] at q I;have aK:=Lib.hid I;have ae:D2<W9.heap.size:=(Iz.1 ab).1;have ad:D<W9.heap.size:=(Iz.1 J).1;clear p I;go_wp2_with(first
      | (refine iG underlying252 (by kernel_rfl) rfl (.tmp 4) rfl S.heap.size sv.list rfl q rfl ?_)
      | (go_at_call 250;refine(ox sv _).mono ?_;rintro e wz ⟨⟨vz,rfl,aD⟩,j⟩))
     have au:=(j.block D2 ae).trans ab;have aE:=(j.block D ad).trans J;refine⟨by simp,.inl ⟨_,_,rfl,run_takeDeferred au,?_⟩⟩;refine⟨by simp,.inl ⟨_,_,rfl,run_takeDeferred ((World.putObj_heap_other (by omega)).trans aE),?_⟩⟩;refine⟨_,results_tmp rfl _ _ _,⟨_,rfl,?_⟩,?_⟩
     ·rw[aK.out]
      exact(jj (jj aD ae _) ad _).mono z.size
     ·have a5:=z.size
      have a4:=j.size;exact iB (iB (z.trans j) (by omega) (by omega) _) (by have:=ay.size;omega) (by rw[oD];omega) _
   ·refine NoPanic.normal ?_
    have y:Kp R V:=by rw[<-C];exact((Kp.refl _).alloc _).alloc _
    have a6:V.heap.size=R.heap.size+2:=by rw[<-C];simp
    have O:V.cell? ⟨R.heap.size,0,none⟩=some (.slice ac (64*M) cc):=by
     rw[<-C,cell_of_row _ _ 0 _ _ _ ((Below.heap_alloc _ _ _ (by simp)).trans (heap_alloc_new R _))];rfl
    have L:V.cell? ⟨R.heap.size+1,0,none⟩=some (.int .i64 64):=by
     have:=heap_alloc_new (R.alloc (.cells #[.slice ac (64*M) cc] 24)) (.cells #[.int .i64 64] 3);rw[IQ,C] at this;rw[cell_of_row _ _ 0 _ _ _ this];rfl
    have u:Kp W V:=((((Kp.refl W).drew.trans ai).alloc _).trans Z).trans y;have ah:Rd V (.slice ac (64*M) cc) T:=H.rd.kp y;have P:=hR.kp u;have Q:=hA.kp u;have ax:Kp w V:=hK.trans u;have aj:=(u.block D (Iz.1 hd).1).trans hd;have bh:D<W.heap.size:=(Iz.1 hd).1;have ba:=u.size;have aH:=P.lt;have aI:=Q.lt;have bd:=hR.lt;have ao:=ai.size;have aC:=Z.size;have bl:W.heap.size<=R.heap.size:=by simp at ao aC;omega
    have m:∀ b o,ac=some ⟨b,o,none⟩->S.heap.size<b:=λb o e=>by
     have:=H.own_ge b (by rw[e];rfl);simp at this ao;omega
    have aJ:=Lib.hid m;clear H C ai Z aq y m;go_wp2_with fail;refine wpIn_wide.1 (kf (F:=Fence.wide) (n:=6) rfl (by omega) (gf:=266) (lb:=#[.pointer (some ⟨R.heap.size,0,none⟩),.pointer (some ⟨R.heap.size+1,0,none⟩)]) rfl trivial (enters_of func266 (by kernel_rfl) rfl) (encs:=λi=>#[cM ac i]) (N:=M) (X:=λk=>k=S.heap.size) (by omega)
     (ma (6 - 1) (by omega) _ V ac M cc _ _ O L (λe=>by omega) (λe=>by omega) av aB (λh0=>by obtain⟨b,o,e,_⟩:=ah.at 0 (by omega);exact⟨b,o,e⟩)) (λ_=>rfl)
     (λi A=>Arr 252 A S.heap.size (bE s T i).list/\Arr 264 A w1.heap.size cG/\Kp w A/\A.heap[D]?=some (.deferred (some []))/\bc (λk=>k=S.heap.size) V A)
     (λi A B h hb=>⟨h.1.below hb (by omega),h.2.1.below hb (by omega),Below.trans h.2.2.1 (hb.mono (by have:=ax.size;omega)),(hb.block D (by omega)).trans h.2.2.2.1,IU h.2.2.2.2.size hb.size,λk hk hn=>(hb.block k hk).trans (h.2.2.2.2.block k hk hn)⟩)
     ⟨P,Q,ax,aj,bc.refl _ _⟩ ?a14 ?assign4 ?body4 ?done24)
    case assign4=>
     intro l' i W K hK;gi_wp2
     exact hK
    case body4=>
     clear P Q O L aj;rintro l' i W9 ⟨q,al,z,J,G⟩ hi;obtain⟨sv,p⟩:∃ x,bE s T i=x:=⟨_,rfl⟩;obtain⟨r,Y⟩:∃ r,bE s T (i+1)=r:=⟨_,rfl⟩;have E:=ia s T i;have aG:=aN.out;have an:((T.drop (64*i)).take 64).length=64:=by rw[Ja,JK];omega
     obtain⟨b1,o1,aw,_⟩:=ah.at 0 (by omega);have a9:=aJ.out b1 o1 aw;have ar:Rd W9 (cM ac i) ((T.drop (64*i)).take 64):=oF (mf ah i (by omega)) G (λb o' c' e=>by rw[aw] at e;simp[cM] at e;omega);rw[Y,p] at E;rw[Y];rw[p] at q;have HS:=Lib.hid (lX sv (cM ac i) ((T.drop (64*i)).take 64) w1.heap.size cG);rw[<-E] at HS;have HB:=Lib.hid an;obtain⟨c0,c1,c2,c3,c4,c5,c6,c7⟩:=q.cells8;generalize cM ac i=cv at *;clear Y p E an aG;gi_wp2_with (refine⟨trivial,?_⟩;gi_at_call 248;refine(CallsIn.inRound l' (callsIn_wide.2 (HS.out _ ar HB.out al rfl))).mono ?_;rintro e wz ⟨rfl,j⟩;rw[lZ];have ak:=q.kp j;obtain⟨e0,e1,e2,e3,e4,e5,e6,e7⟩:=ak.cells8;obtain⟨f0,f1,f2,f3,f4,f5,f6,f7⟩:=ak.frozen8)
     have af:bc (λk=>k=S.heap.size) W9 _:=mb (X:=λk=>k=S.heap.size) (bc.of_kp j) (g:=S.heap.size) rfl (.int .u32 (aa r.a)) (.int .u32 (aa r.b)) (.int .u32 (aa r.c)) (.int .u32 (aa r.d)) (.int .u32 (aa r.e)) (.int .u32 (aa r.f)) (.int .u32 (aa r.g)) (.int .u32 (aa r.h));exact⟨af,ak.set8 r,mc (al.kp j) (Mt aQ) _ _ _ _ _ _ _ _,lY (z.trans j) az _ _ _ _ _ _ _ _,(af.block D (by have:=G.size;omega) (by omega)).trans J,G.trans af⟩
    case done24=>
     clear P Q O L aj;rintro D2 W9 bi ⟨q,al,z,J,G⟩ ab;have I:=aV.out;rw[aW.out] at I;obtain⟨sv,p⟩:∃ x,bE s T M=x:=⟨_,rfl⟩;rw[p] at q I;have aK:=Lib.hid I;have ae:D2<W9.heap.size:=(Iz.1 ab).1;have ad:D<W9.heap.size:=(Iz.1 J).1;clear p I;go_wp2_with(first
      | (refine iG underlying252 (by kernel_rfl) rfl (.tmp 4) rfl S.heap.size sv.list rfl q rfl ?_)
      | (go_at_call 250;refine(ox sv _).mono ?_;rintro e wz ⟨⟨vz,rfl,aD⟩,j⟩))
     have au:=(j.block D2 ae).trans ab;have aE:=(j.block D ad).trans J;refine⟨by simp,.inl ⟨_,_,rfl,run_takeDeferred au,?_⟩⟩;refine⟨by simp,.inl ⟨_,_,rfl,run_takeDeferred ((World.putObj_heap_other (by omega)).trans aE),?_⟩⟩;refine⟨_,results_tmp rfl _ _ _,⟨_,rfl,?_⟩,?_⟩
     ·rw[aK.out]
      exact(jj (jj aD ae _) ad _).mono z.size
     ·have a5:=z.size
      have a4:=j.size;exact iB (iB (z.trans j) (by omega) (by omega) _) (by have:=ay.size;omega) (by rw[oD];omega) _
theorem AT (v:Value)(l:List UInt8)(w:World)(h:Rd w v l)(c:l.length<=2000):
  Calls prog 211 #[v] w λe w'=>(∃ a,e=.returned a/\Rd w' a (bH l))/\Kp w w':=
 (tU v l w h c).mono λe w' ⟨⟨a,f,b⟩,d⟩=>⟨⟨a,f,b.rd⟩,d⟩

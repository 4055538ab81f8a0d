import Derived.Test.YthmhklmkgkfcpaaGreatDoorW6
import Derived.Test.YthmhklmkgkfcpaaGreatDoorW7
import Derived.Laws.CopyOwn
import Derived.Deep.MidRow
set_option linter.all false
set_option maxHeartbeats 8000000
set_option maxRecDepth 100000
namespace Go.Proofs.YthmhklmkgkfcpaaGreatDoor
open Go.Proofs.Tryz Go.RowKit
variable {A w w':World}{K l:List UInt8}{P:Program}{Q:Exit->Act->World->Prop}{T e t:TypeId}{X:Nat->Prop}{a:Act}{b g gc n o:Nat}{v:Value}
section
open Go.Shelf
attribute [local go_sem] Oper.semAt_some
theorem mR (h:bg X A w)(a:X g)(k j i f e d c b:Value):
  bg X A ((((((((w.setCell ⟨g,0,none⟩ k).setCell ⟨g,1,none⟩ j).setCell ⟨g,2,none⟩ i).setCell ⟨g,3,none⟩ f).setCell ⟨g,4,none⟩ e).setCell ⟨g,5,none⟩ d).setCell ⟨g,6,none⟩ c).setCell ⟨g,7,none⟩ b):=
 (((((((h.setCell ⟨g,0,none⟩ k a).setCell ⟨g,1,none⟩ j a).setCell ⟨g,2,none⟩ i a).setCell ⟨g,3,none⟩ f a).setCell ⟨g,4,none⟩ e a).setCell ⟨g,5,none⟩ d a).setCell ⟨g,6,none⟩ c a).setCell ⟨g,7,none⟩ b a
theorem mS {k:Nat}{l:List UInt32}(h:Arr T w k l)(a:k≠g)(m j i f e d c b:Value):
  Arr T ((((((((w.setCell ⟨g,0,none⟩ m).setCell ⟨g,1,none⟩ j).setCell ⟨g,2,none⟩ i).setCell ⟨g,3,none⟩ f).setCell ⟨g,4,none⟩ e).setCell ⟨g,5,none⟩ d).setCell ⟨g,6,none⟩ c).setCell ⟨g,7,none⟩ b) k l:=
 (((((((h.other ⟨g,0,none⟩ m a).other ⟨g,1,none⟩ j a).other ⟨g,2,none⟩ i a).other ⟨g,3,none⟩ f a).other ⟨g,4,none⟩ e a).other ⟨g,5,none⟩ d a).other ⟨g,6,none⟩ c a).other ⟨g,7,none⟩ b a
theorem uE (w:World)(T:TypeId)(x y:Value):(w.alloc (.cells #[x,y] T)).cell? ⟨w.heap.size,0,none⟩=some x:=by rw[cell_of_row _ _ 0 _ _ _ (heap_alloc_new w _)];rfl
theorem uF (w:World)(T:TypeId)(x y:Value):(w.alloc (.cells #[x,y] T)).cell? ⟨w.heap.size,1,none⟩=some y:=by rw[cell_of_row _ _ 1 _ _ _ (heap_alloc_new w _)];rfl
theorem jI {B:Nat}(h:Ow e w B v l){D:Nat}(j:D<B)(o:Obj):Ow e (w.putObj D o) B v l:=by
 refine⟨h.1,?_⟩;rcases h.2 with d|⟨g,b,a,c,i,f,rest⟩
 ·exact .inl d
 ·exact .inr ⟨g,b,a,c,i,(World.putObj_heap_other (by omega)).trans f,rest⟩
theorem oU (w:World)(D:Nat)(o:Obj):(w.putObj D o).heap.size=w.heap.size:=by
 simp[World.putObj]
theorem oV {B:World}(h:Rd A v l)(n:bg X A B)(m:∀ b o c,v=.slice (some ⟨b,o,none⟩) l.length c->¬X b):Rd B v l:=by
 obtain⟨a,c,rfl,s,r,q,k⟩:=h;refine⟨a,c,rfl,s,r,q,λx e i p=>?_⟩;have j:=k x e i p;subst e;obtain⟨b,o,d⟩:=x;have g:=Mk (k _ rfl 0 (by omega));have f:d=none:=by simpa [Addr.add] using g
 subst f;exact(Ll (w:=A) (n.block _ (Jz A _ j) (by
  have:((⟨b,o,none⟩:Addr).add i).block=b:=by unfold Addr.add;split <;> rfl
  rw[this];exact m b o c rfl))).trans j
theorem mT {a:Option Addr}{c:Nat}(h:Rd w (.slice a n c) l)(i:Nat)(g:64*i+64<=n):Rd w (dd a i) ((l.drop (64*i)).take 64):=by
 obtain⟨b,o,rfl,_,_⟩:=h.at 0 (by omega);obtain⟨p,f,j⟩:=h.len;have k:=h.cutAt (64*i) 64 g (by omega);obtain⟨u,t,e,s,r,q,m⟩:=k;have d:((l.drop (64*i)).take 64).length=64:=by simp;omega
 simp only[Ji] at e;obtain⟨rfl,_,rfl⟩:=e;exact⟨some ⟨b,o+64*i,none⟩,64,by rw[d];rfl,by rw[d];exact Ja _,by unfold maxLen;omega,λh=>(by cases h),m⟩
theorem uG (v:Value)(l:List UInt8)(w:World)(h:Rd w v l)(hl:l.length<=2000):
  Calls prog 211 #[v] w λe w'=>(∃ v',e=.returned v'/\Ow 5 w' w.heap.size v' (bF l))/\Kp w w':=by
 have U:=aj;obtain⟨a,c,rfl,h1,h2⟩:=h.shape;unfold maxLen at h2;obtain⟨N,hN⟩:∃ N,l.length / 64=N:=⟨_,rfl⟩;have bu:(l.length:Int) - (l.length:Int) % 64=64*(N:Int):=by omega
 have bC:(l.length:Int) - (l.length:Int).tmod 64=64*(N:Int):=by rw[JF (by omega)];exact bu
 have aS:64*N<=l.length:=by omega
 have HN:=Lib.hid hN;clear hN;refine(callsIn_wide (n:=6)).1 ?_;refine callsIn_of_wp_marks func211 rfl trivial ?_ rfl;refine wpIn_wide.2 ?_;simp only[ntmps211,Ka,Kb,Jo,Jt,Nat.reduceAdd,Nat.reduceSub,JX,JY,Kg,JR,Kc];go_wp2_with fail;refine(AV _).mono ?_;rintro e w1 ⟨rfl,bp⟩;go_wp2_with(refine iB (by kernel_rfl) rfl rfl (.tmp 3) (.tmp 8) rfl w1.heap.size (bd 64) cT rfl rfl (Arr.new _ _ _ _ rfl) (iD 64) rfl ?_;intro w2 br a2)
 have aZ:Kp w w2:=a2.below (bp.alloc _) bp.size;clear a2;refine(AX _).mono ?_;rintro e S ⟨rfl,a6⟩;have aU:=br.kp a6;have aL:Kp w S:=aZ.trans a6;clear br aZ a6;go_wp2_with(refine iB (by kernel_rfl) rfl rfl (.tmp 4) (.tmp 9) rfl S.heap.size (bd 8) dA.list rfl rfl (Arr.new _ _ _ _ rfl) rfl rfl ?_;intro w4 bf aF)
 have bk:=aF.arr (aU.alloc _) (by have:=aU.lt;omega);have aY:Kp w w4:=aF.below (aL.alloc _) aL.size;have bD:=bk.lt;have bz:=bf.lt;have aQ:S.heap.size≠w1.heap.size:=by have:=aU.lt;omega
 have az:=aL.size;clear aF aU aL;refine(qW a (64*N) c w4).mono ?_;rintro e w5 ⟨rfl,aO⟩;have aT:Kp w4 w5:=by rw[<-aO];exact((Kp.refl _).alloc _).alloc _
 have bH:w5.heap.size=w4.heap.size+2:=by rw[<-aO];simp
 have O:w5.cell? ⟨w4.heap.size,0,none⟩=some (.slice a (64*N) c):=by
  rw[<-aO,cell_of_row _ _ 0 _ _ _ ((Below.heap_alloc _ _ _ (by simp)).trans (heap_alloc_new w4 _))];rfl
 have L:w5.cell? ⟨w4.heap.size+1,0,none⟩=some (.int .i64 64):=by
  have:=heap_alloc_new (w4.alloc (.cells #[.slice a (64*N) c] 24)) (.cells #[.int .i64 64] 3);rw[Jn,aO] at this;rw[cell_of_row _ _ 0 _ _ _ this];rfl
 have bj:=bk.kp aT;have be:=bf.kp aT;have ay:Kp w w5:=aY.trans aT;clear aO bk bf aY aT;go_wp2_with fail;refine wpIn_wide.1 (kS (F:=Fence.wide) (n:=6) rfl (by omega) (gf:=266) (lb:=#[.pointer (some ⟨w4.heap.size,0,none⟩),.pointer (some ⟨w4.heap.size+1,0,none⟩)]) rfl trivial (enters_of func266 (by kernel_rfl) rfl) (encs:=λi=>#[dd a i]) (N:=N) (X:=λk=>k=S.heap.size) (by omega)
  (mQ (6 - 1) (by omega) _ w5 a N c _ _ O L (λe=>by omega) (λe=>by omega) (by omega) (by unfold maxLen;omega) (λh0=>by obtain⟨b,o,e,_⟩:=h.at 0 (by omega);exact⟨b,o,e⟩)) (λ_=>rfl)
  (λi A=>Arr 252 A S.heap.size (bE dA l i).list/\Arr 264 A w1.heap.size cT/\Kp w A)
  (λi A B h hb=>⟨h.1.below hb (by omega),h.2.1.below hb (by omega),Below.trans h.2.2 (hb.mono (by have:=ay.size;omega))⟩)
  ⟨be,bj,ay⟩ ?a1 ?assign ?body ?done)
 case assign=>
  intro l' i W K hK;gi_wp2
  exact hK
 case body=>
  clear be bj O L;rintro l' i W ⟨hR,hA,hK⟩ hi;have aX:Rd w (.slice a (64*N) c) (l.take (64*N)):=by
   by_cases h0:c=0
   ·have bA:l=[]:=Ju (by omega)
    subst bA;have bB:64*N=0:=by simp at aS;omega
    rw[bB];simpa using h
   ·have:=h.cut 0 (64*N) (by omega) aS _ (64*N) c rfl rfl rfl
    rw[if_neg h0] at this;have e:a.map (λx=>x.add 0)=a:=by cases a <;> simp[Addr.add]
    simpa [e] using this
  have bm:=mT aX i (by omega);have bq:((l.take (64*N)).drop (64*i)).take 64=(l.drop (64*i)).take 64:=by
   rw[List.drop_take,List.take_take,Ma (by omega)]
  rw[bq] at bm;have E:=iG dA l i;have an:((l.drop (64*i)).take 64).length=64:=by simp;omega
  obtain⟨s,hs⟩:∃ s,bE dA l i=s:=⟨_,rfl⟩;obtain⟨r,Y⟩:∃ r,bE dA l (i+1)=r:=⟨_,rfl⟩;rw[Y] at E ⊢;rw[hs] at E hR;have HS:=Lib.hid (mM s (dd a i) ((l.drop (64*i)).take 64) w1.heap.size cT);rw[<-E] at HS;have HB:=Lib.hid an;obtain⟨c0,c1,c2,c3,c4,c5,c6,c7⟩:=hR.cells8;generalize dd a i=cv at *;clear hs Y E an bq aX;gi_wp2_with (refine⟨trivial,?_⟩;gi_at_call 248;refine(CallsIn.inRound l' (callsIn_wide.2 (HS.out _ (bm.kp hK) HB.out hA rfl))).mono ?_;rintro e R ⟨rfl,Z⟩;rw[mO];have bc:=hR.kp Z;obtain⟨e0,e1,e2,e3,e4,e5,e6,e7⟩:=bc.cells8;obtain⟨f0,f1,f2,f3,f4,f5,f6,f7⟩:=bc.frozen8)
  exact⟨mR (X:=λk=>k=S.heap.size) (bg.of_kp Z) rfl _ _ _ _ _ _ _ _,bc.set8 r,mS (hA.kp Z) (MX aQ) _ _ _ _ _ _ _ _,mN (hK.trans Z) az _ _ _ _ _ _ _ _⟩
 case done=>
  clear be bj O L;rintro D W hD ⟨hR,hA,hK⟩ hd;obtain⟨s,hs⟩:∃ s,bE dA l N=s:=⟨_,rfl⟩;rw[hs] at hR;have bn:=uy l.length hl;have bt:=Lib.hid bn;have aW:=Lib.hid hs;clear hs bn;obtain⟨t1,aP⟩:∃ t,l.drop (64*N)=t:=⟨_,rfl⟩;have bG:t1.length=l.length - 64*N:=by rw[<-aP];simp
  have HT:=Lib.hid aP;have aA:∃ a',Rd w (.slice a' (l.length - 64*N) (c - 64*N)) t1/\a'=(if c=64*N then a else a.map (·.add (64*N))):=by
   refine⟨_,?_,rfl⟩;have:=h.cut (64*N) l.length aS (Ja _) _ (l.length - 64*N) (c - 64*N) rfl rfl rfl;rw[aP,JG (by omega)] at this;exact this
  obtain⟨a',aA,aR⟩:=aA;have aM:=Bn l N HN.out.symm;have am:=Bm l N ((l.drop (64*N)++pad l.length).length / 64) HN.out.symm aM;rw[aP] at aM am;obtain⟨T,ba⟩:∃ T,t1++pad l.length=T:=⟨_,rfl⟩;rw[ba] at aM am;obtain⟨M,hM⟩:∃ M,T.length / 64=M:=⟨_,rfl⟩;rw[hM] at aM am;have aN:=Lib.hid aM.symm;have bs:=Lib.hid ba;have aV:=Lib.hid am;clear aP aM am ba hM;by_cases a0:c=64*N
  ·subst a0
   rw[if_pos rfl] at aR;subst aR;rw[show l.length - 64*N=0 by omega,Lx] at aA;have hM:=lx l.length;have a7:=lq l.length;have bv:(pad l.length).length<=100:=by omega
   have bo:0<(pad l.length).length:=by omega
   clear hM a7;go_wp2_with fail;refine wp_region_noPanic ?_;go_region_with (first
    | (go_at_call 249;refine(uh _ _).mono ?_;rintro e w6 ⟨⟨vp,rfl,aq⟩,ah⟩;rw[bt.out] at aq;obtain⟨ap,cp,rfl,bx,bw⟩:=aq.shape)
    | (go_at_call 168;refine(uD w6.heap.size 2 _ _ t1 (pad l.length) _ (uE _ _ _ _) (uF _ _ _ _) ((aA.kp ((hK.drew.trans ah).alloc _))) (aq.kp ((Kp.refl _).alloc _)) (by omega) (by omega)).mono ?_;rintro e R ⟨⟨vc,rfl,H⟩,Z⟩;rw[bs.out] at H;obtain⟨ac,cc,rfl,av,aB⟩:=H.rd.shape;rw[aN.out] at H av ⊢)
    | (go_at_call 247;refine(qW _ _ _ _).mono ?_;rintro e V ⟨rfl,C⟩))
   ·refine NoPanic.normal ?_
    have y:Kp R V:=by rw[<-C];exact((Kp.refl _).alloc _).alloc _
    have a5:V.heap.size=R.heap.size+2:=by rw[<-C];simp
    have O:V.cell? ⟨R.heap.size,0,none⟩=some (.slice ac (64*M) cc):=by
     rw[<-C,cell_of_row _ _ 0 _ _ _ ((Below.heap_alloc _ _ _ (by simp)).trans (heap_alloc_new R _))];rfl
    have L:V.cell? ⟨R.heap.size+1,0,none⟩=some (.int .i64 64):=by
     have:=heap_alloc_new (R.alloc (.cells #[.slice ac (64*M) cc] 24)) (.cells #[.int .i64 64] 3);rw[Jn,C] at this;rw[cell_of_row _ _ 0 _ _ _ this];rfl
    have u:Kp W V:=((((Kp.refl W).drew.trans ah).alloc _).trans Z).trans y;have ag:Rd V (.slice ac (64*M) cc) T:=H.rd.kp y;have P:=hR.kp u;have Q:=hA.kp u;have ax:Kp w V:=hK.trans u;have ai:=(u.block D (IX.1 hd).1).trans hd;have bh:D<W.heap.size:=(IX.1 hd).1;have a9:=u.size;have aH:=P.lt;have aI:=Q.lt;have bb:=hR.lt;have ao:=ah.size;have aC:=Z.size;have bl:W.heap.size<=R.heap.size:=by simp at ao aC;omega
    have m:∀ b o,ac=some ⟨b,o,none⟩->S.heap.size<b:=λb o e=>by
     have:=H.own_ge b (by rw[e];rfl);simp at this ao;omega
    have aJ:=Lib.hid m;clear H C ah Z aq y m;go_wp2_with fail;refine wpIn_wide.1 (kS (F:=Fence.wide) (n:=6) rfl (by omega) (gf:=266) (lb:=#[.pointer (some ⟨R.heap.size,0,none⟩),.pointer (some ⟨R.heap.size+1,0,none⟩)]) rfl trivial (enters_of func266 (by kernel_rfl) rfl) (encs:=λi=>#[dd ac i]) (N:=M) (X:=λk=>k=S.heap.size) (by omega)
     (mQ (6 - 1) (by omega) _ V ac M cc _ _ O L (λe=>by omega) (λe=>by omega) av aB (λh0=>by obtain⟨b,o,e,_⟩:=ag.at 0 (by omega);exact⟨b,o,e⟩)) (λ_=>rfl)
     (λi A=>Arr 252 A S.heap.size (bE s T i).list/\Arr 264 A w1.heap.size cT/\Kp w A/\A.heap[D]?=some (.deferred (some []))/\bg (λk=>k=S.heap.size) V A)
     (λi A B h hb=>⟨h.1.below hb (by omega),h.2.1.below hb (by omega),Below.trans h.2.2.1 (hb.mono (by have:=ax.size;omega)),(hb.block D (by omega)).trans h.2.2.2.1,Js h.2.2.2.2.size hb.size,λk hk hn=>(hb.block k hk).trans (h.2.2.2.2.block k hk hn)⟩)
     ⟨P,Q,ax,ai,bg.refl _ _⟩ ?a11 ?assign1 ?body1 ?done21)
    case assign1=>
     intro l' i W K hK;gi_wp2
     exact hK
    case body1=>
     clear P Q O L ai;rintro l' i W9 ⟨q,al,z,J,G⟩ hi;obtain⟨sv,p⟩:∃ x,bE s T i=x:=⟨_,rfl⟩;obtain⟨r,Y⟩:∃ r,bE s T (i+1)=r:=⟨_,rfl⟩;have E:=iG s T i;have aG:=aN.out;have an:((T.drop (64*i)).take 64).length=64:=by rw[Jv,Ky];omega
     obtain⟨b1,o1,aw,_⟩:=ag.at 0 (by omega);have a8:=aJ.out b1 o1 aw;have ar:Rd W9 (dd ac i) ((T.drop (64*i)).take 64):=oV (mT ag i (by omega)) G (λb o' c' e=>by rw[aw] at e;simp[dd] at e;omega);rw[Y,p] at E;rw[Y];rw[p] at q;have HS:=Lib.hid (mM sv (dd ac i) ((T.drop (64*i)).take 64) w1.heap.size cT);rw[<-E] at HS;have HB:=Lib.hid an;obtain⟨c0,c1,c2,c3,c4,c5,c6,c7⟩:=q.cells8;generalize dd ac i=cv at *;clear Y p E an aG;gi_wp2_with (refine⟨trivial,?_⟩;gi_at_call 248;refine(CallsIn.inRound l' (callsIn_wide.2 (HS.out _ ar HB.out al rfl))).mono ?_;rintro e wz ⟨rfl,j⟩;rw[mO];have ak:=q.kp j;obtain⟨e0,e1,e2,e3,e4,e5,e6,e7⟩:=ak.cells8;obtain⟨f0,f1,f2,f3,f4,f5,f6,f7⟩:=ak.frozen8)
     have af:bg (λk=>k=S.heap.size) W9 _:=mR (X:=λk=>k=S.heap.size) (bg.of_kp j) (g:=S.heap.size) rfl (.int .u32 (aa r.a)) (.int .u32 (aa r.b)) (.int .u32 (aa r.c)) (.int .u32 (aa r.d)) (.int .u32 (aa r.e)) (.int .u32 (aa r.f)) (.int .u32 (aa r.g)) (.int .u32 (aa r.h));exact⟨af,ak.set8 r,mS (al.kp j) (MX aQ) _ _ _ _ _ _ _ _,mN (z.trans j) az _ _ _ _ _ _ _ _,(af.block D (by have:=G.size;omega) (by omega)).trans J,G.trans af⟩
    case done21=>
     clear P Q O L ai;rintro D2 W9 bi ⟨q,al,z,J,G⟩ ab;have I:=aV.out;rw[aW.out] at I;obtain⟨sv,p⟩:∃ x,bE s T M=x:=⟨_,rfl⟩;rw[p] at q I;have aK:=Lib.hid I;have ae:D2<W9.heap.size:=(IX.1 ab).1;have ad:D<W9.heap.size:=(IX.1 J).1;clear p I;go_wp2_with(first
      | (refine ja underlying252 (by kernel_rfl) rfl (.tmp 4) rfl S.heap.size sv.list rfl q rfl ?_)
      | (go_at_call 250;refine(oS sv _).mono ?_;rintro e wz ⟨⟨vz,rfl,aD⟩,j⟩))
     have au:=(j.block D2 ae).trans ab;have aE:=(j.block D ad).trans J;refine⟨by simp,.inl ⟨_,_,rfl,run_takeDeferred au,?_⟩⟩;refine⟨by simp,.inl ⟨_,_,rfl,run_takeDeferred ((World.putObj_heap_other (by omega)).trans aE),?_⟩⟩;refine⟨_,results_tmp rfl _ _ _,⟨_,rfl,?_⟩,?_⟩
     ·rw[aK.out]
      exact(jI (jI aD ae _) ad _).mono z.size
     ·have a4:=z.size
      have a3:=j.size;exact iW (iW (z.trans j) (by omega) (by omega) _) (by have:=ay.size;omega) (by rw[oU];omega) _
   ·refine NoPanic.normal ?_
    have y:Kp R V:=by rw[<-C];exact((Kp.refl _).alloc _).alloc _
    have a5:V.heap.size=R.heap.size+2:=by rw[<-C];simp
    have O:V.cell? ⟨R.heap.size,0,none⟩=some (.slice ac (64*M) cc):=by
     rw[<-C,cell_of_row _ _ 0 _ _ _ ((Below.heap_alloc _ _ _ (by simp)).trans (heap_alloc_new R _))];rfl
    have L:V.cell? ⟨R.heap.size+1,0,none⟩=some (.int .i64 64):=by
     have:=heap_alloc_new (R.alloc (.cells #[.slice ac (64*M) cc] 24)) (.cells #[.int .i64 64] 3);rw[Jn,C] at this;rw[cell_of_row _ _ 0 _ _ _ this];rfl
    have u:Kp W V:=((((Kp.refl W).drew.trans ah).alloc _).trans Z).trans y;have ag:Rd V (.slice ac (64*M) cc) T:=H.rd.kp y;have P:=hR.kp u;have Q:=hA.kp u;have ax:Kp w V:=hK.trans u;have ai:=(u.block D (IX.1 hd).1).trans hd;have bh:D<W.heap.size:=(IX.1 hd).1;have a9:=u.size;have aH:=P.lt;have aI:=Q.lt;have bb:=hR.lt;have ao:=ah.size;have aC:=Z.size;have bl:W.heap.size<=R.heap.size:=by simp at ao aC;omega
    have m:∀ b o,ac=some ⟨b,o,none⟩->S.heap.size<b:=λb o e=>by
     have:=H.own_ge b (by rw[e];rfl);simp at this ao;omega
    have aJ:=Lib.hid m;clear H C ah Z aq y m;go_wp2_with fail;refine wpIn_wide.1 (kS (F:=Fence.wide) (n:=6) rfl (by omega) (gf:=266) (lb:=#[.pointer (some ⟨R.heap.size,0,none⟩),.pointer (some ⟨R.heap.size+1,0,none⟩)]) rfl trivial (enters_of func266 (by kernel_rfl) rfl) (encs:=λi=>#[dd ac i]) (N:=M) (X:=λk=>k=S.heap.size) (by omega)
     (mQ (6 - 1) (by omega) _ V ac M cc _ _ O L (λe=>by omega) (λe=>by omega) av aB (λh0=>by obtain⟨b,o,e,_⟩:=ag.at 0 (by omega);exact⟨b,o,e⟩)) (λ_=>rfl)
     (λi A=>Arr 252 A S.heap.size (bE s T i).list/\Arr 264 A w1.heap.size cT/\Kp w A/\A.heap[D]?=some (.deferred (some []))/\bg (λk=>k=S.heap.size) V A)
     (λi A B h hb=>⟨h.1.below hb (by omega),h.2.1.below hb (by omega),Below.trans h.2.2.1 (hb.mono (by have:=ax.size;omega)),(hb.block D (by omega)).trans h.2.2.2.1,Js h.2.2.2.2.size hb.size,λk hk hn=>(hb.block k hk).trans (h.2.2.2.2.block k hk hn)⟩)
     ⟨P,Q,ax,ai,bg.refl _ _⟩ ?a12 ?assign2 ?body2 ?done22)
    case assign2=>
     intro l' i W K hK;gi_wp2
     exact hK
    case body2=>
     clear P Q O L ai;rintro l' i W9 ⟨q,al,z,J,G⟩ hi;obtain⟨sv,p⟩:∃ x,bE s T i=x:=⟨_,rfl⟩;obtain⟨r,Y⟩:∃ r,bE s T (i+1)=r:=⟨_,rfl⟩;have E:=iG s T i;have aG:=aN.out;have an:((T.drop (64*i)).take 64).length=64:=by rw[Jv,Ky];omega
     obtain⟨b1,o1,aw,_⟩:=ag.at 0 (by omega);have a8:=aJ.out b1 o1 aw;have ar:Rd W9 (dd ac i) ((T.drop (64*i)).take 64):=oV (mT ag i (by omega)) G (λb o' c' e=>by rw[aw] at e;simp[dd] at e;omega);rw[Y,p] at E;rw[Y];rw[p] at q;have HS:=Lib.hid (mM sv (dd ac i) ((T.drop (64*i)).take 64) w1.heap.size cT);rw[<-E] at HS;have HB:=Lib.hid an;obtain⟨c0,c1,c2,c3,c4,c5,c6,c7⟩:=q.cells8;generalize dd ac i=cv at *;clear Y p E an aG;gi_wp2_with (refine⟨trivial,?_⟩;gi_at_call 248;refine(CallsIn.inRound l' (callsIn_wide.2 (HS.out _ ar HB.out al rfl))).mono ?_;rintro e wz ⟨rfl,j⟩;rw[mO];have ak:=q.kp j;obtain⟨e0,e1,e2,e3,e4,e5,e6,e7⟩:=ak.cells8;obtain⟨f0,f1,f2,f3,f4,f5,f6,f7⟩:=ak.frozen8)
     have af:bg (λk=>k=S.heap.size) W9 _:=mR (X:=λk=>k=S.heap.size) (bg.of_kp j) (g:=S.heap.size) rfl (.int .u32 (aa r.a)) (.int .u32 (aa r.b)) (.int .u32 (aa r.c)) (.int .u32 (aa r.d)) (.int .u32 (aa r.e)) (.int .u32 (aa r.f)) (.int .u32 (aa r.g)) (.int .u32 (aa r.h));exact⟨af,ak.set8 r,mS (al.kp j) (MX aQ) _ _ _ _ _ _ _ _,mN (z.trans j) az _ _ _ _ _ _ _ _,(af.block D (by have:=G.size;omega) (by omega)).trans J,G.trans af⟩
    case done22=>
     clear P Q O L ai;rintro D2 W9 bi ⟨q,al,z,J,G⟩ ab;have I:=aV.out;rw[aW.out] at I;obtain⟨sv,p⟩:∃ x,bE s T M=x:=⟨_,rfl⟩;rw[p] at q I;have aK:=Lib.hid I;have ae:D2<W9.heap.size:=(IX.1 ab).1;have ad:D<W9.heap.size:=(IX.1 J).1;clear p I;go_wp2_with(first
      | (refine ja underlying252 (by kernel_rfl) rfl (.tmp 4) rfl S.heap.size sv.list rfl q rfl ?_)
      | (go_at_call 250;refine(oS sv _).mono ?_;rintro e wz ⟨⟨vz,rfl,aD⟩,j⟩))
     have au:=(j.block D2 ae).trans ab;have aE:=(j.block D ad).trans J;refine⟨by simp,.inl ⟨_,_,rfl,run_takeDeferred au,?_⟩⟩;refine⟨by simp,.inl ⟨_,_,rfl,run_takeDeferred ((World.putObj_heap_other (by omega)).trans aE),?_⟩⟩;refine⟨_,results_tmp rfl _ _ _,⟨_,rfl,?_⟩,?_⟩
     ·rw[aK.out]
      exact(jI (jI aD ae _) ad _).mono z.size
     ·have a4:=z.size
      have a3:=j.size;exact iW (iW (z.trans j) (by omega) (by omega) _) (by have:=ay.size;omega) (by rw[oU];omega) _
  ·rw[if_neg a0] at aR
   cases a with
   | none=>
    obtain⟨_,_,e,_,_,h3,_⟩:=h;cases e;have:=h3 rfl;omega
   | some x=>
   simp only[Option.map_some] at aR;subst aR;have hM:=lx l.length;have a7:=lq l.length;have bv:(pad l.length).length<=100:=by omega
   have bo:0<(pad l.length).length:=by omega
   clear hM a7;go_wp2_with fail;refine wp_region_noPanic ?_;go_region_with (first
    | (go_at_call 249;refine(uh _ _).mono ?_;rintro e w6 ⟨⟨vp,rfl,aq⟩,ah⟩;rw[bt.out] at aq;obtain⟨ap,cp,rfl,bx,bw⟩:=aq.shape)
    | (go_at_call 168;refine(uD w6.heap.size 2 _ _ t1 (pad l.length) _ (uE _ _ _ _) (uF _ _ _ _) ((aA.kp ((hK.drew.trans ah).alloc _))) (aq.kp ((Kp.refl _).alloc _)) (by omega) (by omega)).mono ?_;rintro e R ⟨⟨vc,rfl,H⟩,Z⟩;rw[bs.out] at H;obtain⟨ac,cc,rfl,av,aB⟩:=H.rd.shape;rw[aN.out] at H av ⊢)
    | (go_at_call 247;refine(qW _ _ _ _).mono ?_;rintro e V ⟨rfl,C⟩))
   ·refine NoPanic.normal ?_
    have y:Kp R V:=by rw[<-C];exact((Kp.refl _).alloc _).alloc _
    have a5:V.heap.size=R.heap.size+2:=by rw[<-C];simp
    have O:V.cell? ⟨R.heap.size,0,none⟩=some (.slice ac (64*M) cc):=by
     rw[<-C,cell_of_row _ _ 0 _ _ _ ((Below.heap_alloc _ _ _ (by simp)).trans (heap_alloc_new R _))];rfl
    have L:V.cell? ⟨R.heap.size+1,0,none⟩=some (.int .i64 64):=by
     have:=heap_alloc_new (R.alloc (.cells #[.slice ac (64*M) cc] 24)) (.cells #[.int .i64 64] 3);rw[Jn,C] at this;rw[cell_of_row _ _ 0 _ _ _ this];rfl
    have u:Kp W V:=((((Kp.refl W).drew.trans ah).alloc _).trans Z).trans y;have ag:Rd V (.slice ac (64*M) cc) T:=H.rd.kp y;have P:=hR.kp u;have Q:=hA.kp u;have ax:Kp w V:=hK.trans u;have ai:=(u.block D (IX.1 hd).1).trans hd;have bh:D<W.heap.size:=(IX.1 hd).1;have a9:=u.size;have aH:=P.lt;have aI:=Q.lt;have bb:=hR.lt;have ao:=ah.size;have aC:=Z.size;have bl:W.heap.size<=R.heap.size:=by simp at ao aC;omega
    have m:∀ b o,ac=some ⟨b,o,none⟩->S.heap.size<b:=λb o e=>by
     have:=H.own_ge b (by rw[e];rfl);simp at this ao;omega
    have aJ:=Lib.hid m;clear H C ah Z aq y m;go_wp2_with fail;refine wpIn_wide.1 (kS (F:=Fence.wide) (n:=6) rfl (by omega) (gf:=266) (lb:=#[.pointer (some ⟨R.heap.size,0,none⟩),.pointer (some ⟨R.heap.size+1,0,none⟩)]) rfl trivial (enters_of func266 (by kernel_rfl) rfl) (encs:=λi=>#[dd ac i]) (N:=M) (X:=λk=>k=S.heap.size) (by omega)
     (mQ (6 - 1) (by omega) _ V ac M cc _ _ O L (λe=>by omega) (λe=>by omega) av aB (λh0=>by obtain⟨b,o,e,_⟩:=ag.at 0 (by omega);exact⟨b,o,e⟩)) (λ_=>rfl)
     (λi A=>Arr 252 A S.heap.size (bE s T i).list/\Arr 264 A w1.heap.size cT/\Kp w A/\A.heap[D]?=some (.deferred (some []))/\bg (λk=>k=S.heap.size) V A)
     (λi A B h hb=>⟨h.1.below hb (by omega),h.2.1.below hb (by omega),Below.trans h.2.2.1 (hb.mono (by have:=ax.size;omega)),(hb.block D (by omega)).trans h.2.2.2.1,Js h.2.2.2.2.size hb.size,λk hk hn=>(hb.block k hk).trans (h.2.2.2.2.block k hk hn)⟩)
     ⟨P,Q,ax,ai,bg.refl _ _⟩ ?a13 ?assign3 ?body3 ?done23)
    case assign3=>
     intro l' i W K hK;gi_wp2
     exact hK
    case body3=>
     clear P Q O L ai;rintro l' i W9 ⟨q,al,z,J,G⟩ hi;obtain⟨sv,p⟩:∃ x,bE s T i=x:=⟨_,rfl⟩;obtain⟨r,Y⟩:∃ r,bE s T (i+1)=r:=⟨_,rfl⟩;have E:=iG s T i;have aG:=aN.out;have an:((T.drop (64*i)).take 64).length=64:=by rw[Jv,Ky];omega
     obtain⟨b1,o1,aw,_⟩:=ag.at 0 (by omega);have a8:=aJ.out b1 o1 aw;have ar:Rd W9 (dd ac i) ((T.drop (64*i)).take 64):=oV (mT ag i (by omega)) G (λb o' c' e=>by rw[aw] at e;simp[dd] at e;omega);rw[Y,p] at E;rw[Y];rw[p] at q;have HS:=Lib.hid (mM sv (dd ac i) ((T.drop (64*i)).take 64) w1.heap.size cT);rw[<-E] at HS;have HB:=Lib.hid an;obtain⟨c0,c1,c2,c3,c4,c5,c6,c7⟩:=q.cells8;generalize dd ac i=cv at *;clear Y p E an aG;gi_wp2_with (refine⟨trivial,?_⟩;gi_at_call 248;refine(CallsIn.inRound l' (callsIn_wide.2 (HS.out _ ar HB.out al rfl))).mono ?_;rintro e wz ⟨rfl,j⟩;rw[mO];have ak:=q.kp j;obtain⟨e0,e1,e2,e3,e4,e5,e6,e7⟩:=ak.cells8;obtain⟨f0,f1,f2,f3,f4,f5,f6,f7⟩:=ak.frozen8)
     have af:bg (λk=>k=S.heap.size) W9 _:=mR (X:=λk=>k=S.heap.size) (bg.of_kp j) (g:=S.heap.size) rfl (.int .u32 (aa r.a)) (.int .u32 (aa r.b)) (.int .u32 (aa r.c)) (.int .u32 (aa r.d)) (.int .u32 (aa r.e)) (.int .u32 (aa r.f)) (.int .u32 (aa r.g)) (.int .u32 (aa r.h));exact⟨af,ak.set8 r,mS (al.kp j) (MX aQ) _ _ _ _ _ _ _ _,mN (z.trans j) az _ _ _ _ _ _ _ _,(af.block D (by have:=G.size;omega) (by omega)).trans J,G.trans af⟩
    case done23=>
     clear P Q O L ai;rintro D2 W9 bi ⟨q,al,z,J,G⟩ ab;have I:=aV.out;rw[aW.out] at I;obtain⟨sv,p⟩:∃ x,bE s T M=x:=⟨_,rfl⟩;rw[p] at q I;have aK:=Lib.hid I;have ae:D2<W9.heap.size:=(IX.1 ab).1;have ad:D<W9.heap.size:=(IX.1 J).1;clear p I;go_wp2_with(first
      | (refine ja underlying252 (by kernel_rfl) rfl (.tmp 4) rfl S.heap.size sv.list rfl q rfl ?_)
      | (go_at_call 250;refine(oS sv _).mono ?_;rintro e wz ⟨⟨vz,rfl,aD⟩,j⟩))
     have au:=(j.block D2 ae).trans ab;have aE:=(j.block D ad).trans J;refine⟨by simp,.inl ⟨_,_,rfl,run_takeDeferred au,?_⟩⟩;refine⟨by simp,.inl ⟨_,_,rfl,run_takeDeferred ((World.putObj_heap_other (by omega)).trans aE),?_⟩⟩;refine⟨_,results_tmp rfl _ _ _,⟨_,rfl,?_⟩,?_⟩
     ·rw[aK.out]
      exact(jI (jI aD ae _) ad _).mono z.size
     ·have a4:=z.size
      have a3:=j.size;exact iW (iW (z.trans j) (by omega) (by omega) _) (by have:=ay.size;omega) (by rw[oU];omega) _
   ·refine NoPanic.normal ?_
    have y:Kp R V:=by rw[<-C];exact((Kp.refl _).alloc _).alloc _
    have a5:V.heap.size=R.heap.size+2:=by rw[<-C];simp
    have O:V.cell? ⟨R.heap.size,0,none⟩=some (.slice ac (64*M) cc):=by
     rw[<-C,cell_of_row _ _ 0 _ _ _ ((Below.heap_alloc _ _ _ (by simp)).trans (heap_alloc_new R _))];rfl
    have L:V.cell? ⟨R.heap.size+1,0,none⟩=some (.int .i64 64):=by
     have:=heap_alloc_new (R.alloc (.cells #[.slice ac (64*M) cc] 24)) (.cells #[.int .i64 64] 3);rw[Jn,C] at this;rw[cell_of_row _ _ 0 _ _ _ this];rfl
    have u:Kp W V:=((((Kp.refl W).drew.trans ah).alloc _).trans Z).trans y;have ag:Rd V (.slice ac (64*M) cc) T:=H.rd.kp y;have P:=hR.kp u;have Q:=hA.kp u;have ax:Kp w V:=hK.trans u;have ai:=(u.block D (IX.1 hd).1).trans hd;have bh:D<W.heap.size:=(IX.1 hd).1;have a9:=u.size;have aH:=P.lt;have aI:=Q.lt;have bb:=hR.lt;have ao:=ah.size;have aC:=Z.size;have bl:W.heap.size<=R.heap.size:=by simp at ao aC;omega
    have m:∀ b o,ac=some ⟨b,o,none⟩->S.heap.size<b:=λb o e=>by
     have:=H.own_ge b (by rw[e];rfl);simp at this ao;omega
    have aJ:=Lib.hid m;clear H C ah Z aq y m;go_wp2_with fail;refine wpIn_wide.1 (kS (F:=Fence.wide) (n:=6) rfl (by omega) (gf:=266) (lb:=#[.pointer (some ⟨R.heap.size,0,none⟩),.pointer (some ⟨R.heap.size+1,0,none⟩)]) rfl trivial (enters_of func266 (by kernel_rfl) rfl) (encs:=λi=>#[dd ac i]) (N:=M) (X:=λk=>k=S.heap.size) (by omega)
     (mQ (6 - 1) (by omega) _ V ac M cc _ _ O L (λe=>by omega) (λe=>by omega) av aB (λh0=>by obtain⟨b,o,e,_⟩:=ag.at 0 (by omega);exact⟨b,o,e⟩)) (λ_=>rfl)
     (λi A=>Arr 252 A S.heap.size (bE s T i).list/\Arr 264 A w1.heap.size cT/\Kp w A/\A.heap[D]?=some (.deferred (some []))/\bg (λk=>k=S.heap.size) V A)
     (λi A B h hb=>⟨h.1.below hb (by omega),h.2.1.below hb (by omega),Below.trans h.2.2.1 (hb.mono (by have:=ax.size;omega)),(hb.block D (by omega)).trans h.2.2.2.1,Js h.2.2.2.2.size hb.size,λk hk hn=>(hb.block k hk).trans (h.2.2.2.2.block k hk hn)⟩)
     ⟨P,Q,ax,ai,bg.refl _ _⟩ ?a14 ?assign4 ?body4 ?done24)
    case assign4=>
     intro l' i W K hK;gi_wp2
     exact hK
    case body4=>
     clear P Q O L ai;rintro l' i W9 ⟨q,al,z,J,G⟩ hi;obtain⟨sv,p⟩:∃ x,bE s T i=x:=⟨_,rfl⟩;obtain⟨r,Y⟩:∃ r,bE s T (i+1)=r:=⟨_,rfl⟩;have E:=iG s T i;have aG:=aN.out;have an:((T.drop (64*i)).take 64).length=64:=by rw[Jv,Ky];omega
     obtain⟨b1,o1,aw,_⟩:=ag.at 0 (by omega);have a8:=aJ.out b1 o1 aw;have ar:Rd W9 (dd ac i) ((T.drop (64*i)).take 64):=oV (mT ag i (by omega)) G (λb o' c' e=>by rw[aw] at e;simp[dd] at e;omega);rw[Y,p] at E;rw[Y];rw[p] at q;have HS:=Lib.hid (mM sv (dd ac i) ((T.drop (64*i)).take 64) w1.heap.size cT);rw[<-E] at HS;have HB:=Lib.hid an;obtain⟨c0,c1,c2,c3,c4,c5,c6,c7⟩:=q.cells8;generalize dd ac i=cv at *;clear Y p E an aG;gi_wp2_with (refine⟨trivial,?_⟩;gi_at_call 248;refine(CallsIn.inRound l' (callsIn_wide.2 (HS.out _ ar HB.out al rfl))).mono ?_;rintro e wz ⟨rfl,j⟩;rw[mO];have ak:=q.kp j;obtain⟨e0,e1,e2,e3,e4,e5,e6,e7⟩:=ak.cells8;obtain⟨f0,f1,f2,f3,f4,f5,f6,f7⟩:=ak.frozen8)
     have af:bg (λk=>k=S.heap.size) W9 _:=mR (X:=λk=>k=S.heap.size) (bg.of_kp j) (g:=S.heap.size) rfl (.int .u32 (aa r.a)) (.int .u32 (aa r.b)) (.int .u32 (aa r.c)) (.int .u32 (aa r.d)) (.int .u32 (aa r.e)) (.int .u32 (aa r.f)) (.int .u32 (aa r.g)) (.int .u32 (aa r.h));exact⟨af,ak.set8 r,mS (al.kp j) (MX aQ) _ _ _ _ _ _ _ _,mN (z.trans j) az _ _ _ _ _ _ _ _,(af.block D (by have:=G.size;omega) (by omega)).trans J,G.trans af⟩
    case done24=>
     clear P Q O L ai;rintro D2 W9 bi ⟨q,al,z,J,G⟩ ab;have I:=aV.out;rw[aW.out] at I;obtain⟨sv,p⟩:∃ x,bE s T M=x:=⟨_,rfl⟩;rw[p] at q I;have aK:=Lib.hid I;have ae:D2<W9.heap.size:=(IX.1 ab).1;have ad:D<W9.heap.size:=(IX.1 J).1;clear p I;go_wp2_with(first
      | (refine ja underlying252 (by kernel_rfl) rfl (.tmp 4) rfl S.heap.size sv.list rfl q rfl ?_)
      | (go_at_call 250;refine(oS sv _).mono ?_;rintro e wz ⟨⟨vz,rfl,aD⟩,j⟩))
     have au:=(j.block D2 ae).trans ab;have aE:=(j.block D ad).trans J;refine⟨by simp,.inl ⟨_,_,rfl,run_takeDeferred au,?_⟩⟩;refine⟨by simp,.inl ⟨_,_,rfl,run_takeDeferred ((World.putObj_heap_other (by omega)).trans aE),?_⟩⟩;refine⟨_,results_tmp rfl _ _ _,⟨_,rfl,?_⟩,?_⟩
     ·rw[aK.out]
      exact(jI (jI aD ae _) ad _).mono z.size
     ·have a4:=z.size
      have a3:=j.size;exact iW (iW (z.trans j) (by omega) (by omega) _) (by have:=ay.size;omega) (by rw[oU];omega) _
theorem Bp (v:Value)(l:List UInt8)(w:World)(h:Rd w v l)(c:l.length<=2000):
  Calls prog 211 #[v] w λe w'=>(∃ a,e=.returned a/\Rd w' a (bF l))/\Kp w w':=
 (uG v l w h c).mono λe w' ⟨⟨a,f,b⟩,d⟩=>⟨⟨a,f,b.rd⟩,d⟩
end
theorem cU (w:World):Rd w (.slice none 0 0) []:=⟨none,0,rfl,Ja _,Jl _,λ_=>rfl,λx a=>by cases a⟩
theorem jd (l:List UInt8):(bF l).length=32:=ur _
theorem Bq (v:Value)(l:List UInt8)(w:World)(h:Rd w v l)(d:l.length<=2000):
  Calls prog 211 #[v] w λe w'=>(∃ a c,e=.returned (.slice a 32 c)/\Rd w' (.slice a 32 c) (bF l))/\Kp w w':=by
 refine(Bp v l w h d).mono ?_;rintro e w' ⟨⟨g,rfl,b⟩,f⟩;obtain⟨a,c,rfl,_,_⟩:=b.shape;rw[jd] at b ⊢;exact⟨⟨a,c,rfl,b⟩,f⟩
theorem uH (v:Value)(l:List UInt8)(w:World)(h:Rd w v l)(d:l.length<=2000):
  Calls prog 211 #[v] w λe w'=>(∃ a c,e=.returned (.slice a 32 c)/\Ow 5 w' w.heap.size (.slice a 32 c) (bF l))/\Kp w w':=by
 refine(uG v l w h d).mono ?_;rintro e w' ⟨⟨g,rfl,b⟩,f⟩;obtain⟨a,c,rfl,_,_⟩:=b.rd.shape;rw[jd] at b ⊢;exact⟨⟨a,c,rfl,b⟩,f⟩
theorem oW (U:U8 P t e){k:Array Oper}{rest:List Oper}{o:Oper}(r:o.guard=none)(d s:Operand)
  (A:o.op=.call { callee:=.builtin .copy,args:=#[d,s],argTypes:=#[t,t] })
  (T:TypeId) (g:Nat) (v:Value) (l m:List UInt8) (c n:Nat) (B:a.eval d=.slice (some ⟨g,0,none⟩) n c) (z:a.eval s=v) (u:By T w g m) (F:m.length=n) (E:Rd w v l) (H:l.length<=n)
  (h:∀ w',By T w' g (l++m.drop l.length)->But g w w'->wpList P k Q rest (a.put o.dst (.int .i64 (l.length:Int))) w'):wpList P k Q (o :: rest) a w:=by
 obtain⟨i,I,N,f,J⟩:=U.hi;have p:(P.info? e).map (·.size)=some 1:=by rw[I];simp[f]
 obtain⟨x,S,rfl,R,O,L,K⟩:=E;subst F;by_cases C:l=[]
 ·subst C
  refine wpList_copy_nothing r d s t t A e U.ht p _ _ _ _ _ _ B z (by simp) ?_;exact h w (by simpa using u) ⟨λh _=>h,λh _=>h,rfl,λ_ _=>rfl⟩
 ·cases x with
  | none=>
   have:=L rfl;have:l.length=0:=by omega
   exact absurd (Ju this) C
  | some x=>
   refine wpList_copy_own r d s t t A e U.ht p g 0 _ _ x _ _ B z _ _ u (Lib.byteCells l) (by rw[cG];exact(Ma H).symm) (λj aa y=>?_) (by simp[Lib.byteCells];omega) (λaa D=>?_) ?_
   ·have q:j<l.length:=by
     have:=(JH.1 y).1;rwa [cG] at this
    rw[gd l j q] at y;cases y;exact K x rfl j q
   ·obtain⟨b,_,rfl⟩:=JO.1 D
    rfl
   ·have M:(goInt (Lib.byteCells l).length)=.int .i64 (l.length:Int):=by rw[cG];rfl
    rw[M];refine h _ ?_ (But.setRow g w _);have G:=(IX.1 u);unfold By;rw[setRow_heap w g _ _ T _ u];congr 2
    simp[Lib.byteCells,List.map_drop]
theorem oX (k:List UInt8):(bR k).length=64:=by
 unfold bR;split
 ·exact uw _ (by rw[jd];omega)
 ·exact uw _ (by omega)
theorem uI (v:Value)(l:List UInt8)(w:World)(h:Rd w v l)(C:l.length<=2000):
  Calls prog 197 #[v] w λe w'=>(∃ g,e=.returned (.slice (some ⟨g,0,none⟩) 64 64)/\By 5 w' g (bR l)/\w.heap.size<=g)/\Kp w w':=by
 have U:=aj;obtain⟨a,c,rfl,F,D⟩:=h.shape;unfold maxLen at D;have u:Hid (∀ W:World,By 5 (W.alloc (.cells (Array.replicate 64 (.int .u8 0)) 5)) W.heap.size (List.replicate 64 0)):=λW=>By.fresh _ _ _
 have t:∀ k:List UInt8,k.length<=64->k++(List.replicate 64 (0:UInt8)).drop k.length=iF k:=λk E=>by unfold iF;rw[List.drop_replicate]
 have y:=Lib.hid t;clear t;by_cases o:64<l.length
 ·have p:bR l=iF (bF l):=by unfold bR;rw[if_pos o]
  have s:=Lib.hid p;have x:=Lib.hid (jd l);have n:64<(l.length:Int):=by omega
  clear p;go_enter func197,ntmps197;go_wp2_with fail;refine(Bq _ l _ h C).mono ?_;rintro e q ⟨⟨H,G,rfl,B⟩,r⟩;go_wp2_with(first
   | (at_make;refine jb (z:=.int .u8 0) (b:=1) underlying24 info5 rfl (by decide) rfl _ _ rfl 64 rfl rfl (by omega) ?_;intro w2 d;have m:By 5 w2 q.heap.size (List.replicate 64 0):=(by rw[d];exact u q);have f:Kp q w2:=(by rw[d];exact(Kp.refl _).alloc _);clear d)
   | (refine oW U rfl (.tmp 10) (.tmp 11) rfl 5 q.heap.size _ (bF l) (List.replicate 64 0) 64 64 rfl rfl m (by simp) (B.kp f) (by rw[x.out];omega) ?_;intro A i j))
  go_ret;rw[y.out _ (by rw[x.out];omega)] at i;refine⟨⟨_,rfl,by rw[s.out];exact i,r.size⟩,j.below (r.trans f) r.size⟩
 ·have p:bR l=iF l:=by unfold bR;rw[if_neg o]
  have s:=Lib.hid p;have n:¬64<(l.length:Int):=by omega
  clear p;go_enter func197,ntmps197;go_wp2_with(first
   | (at_make;refine jb (z:=.int .u8 0) (b:=1) underlying24 info5 rfl (by decide) rfl _ _ rfl 64 rfl rfl (by omega) ?_;intro w2 d;have m:By 5 w2 w.heap.size (List.replicate 64 0):=(by rw[d];exact u w);have f:Kp w w2:=(by rw[d];exact(Kp.refl _).alloc _);clear d)
   | (refine oW U rfl (.tmp 10) (.tmp 11) rfl 5 w.heap.size _ l (List.replicate 64 0) 64 64 rfl rfl m (by simp) (h.kp f) (by omega) ?_;intro A i j))
  go_ret;rw[y.out _ (by omega)] at i;refine⟨⟨_,rfl,by rw[s.out];exact i,Ja _⟩,j.below f (Ja _)⟩
def di (B:Nat->List UInt8):Nat->List UInt8
 | 0=>[]
 | i+1=>di B i++B i
theorem mU (B:Nat->List UInt8)(h:∀ i,(B i).length=32):∀ N,(di B N).length=32*N
 | 0=>rfl
 | N+1=>by rw[di,Jc,mU B h N,h N];omega
theorem Bs (B:Nat->List UInt8)(i k:Nat):∃ r,di B (i+k)=di B i++r:=by
 induction k with
 | zero=>exact⟨[],by simp⟩
 | succ k ih=>obtain⟨r,a⟩:=ih;exact⟨r++B (i+k),by rw[<-Lv,di,a,KN]⟩
def je (B:Nat->List UInt8)(n:Nat):List UInt8:=(di B ((n+31) / 32)).take n
theorem qX (B:Nat->List UInt8)(h:∀ i,(B i).length=32)(n N:Nat)(c:n<=32*N):je B n=(di B N).take n:=by
 obtain⟨r,a⟩:=Bs B ((n+31) / 32) (N - (n+31) / 32);have b:(n+31) / 32<=N:=by omega
 rw[show(n+31) / 32+(N - (n+31) / 32)=N by omega] at a;rw[a,Le (by rw[mU B h];omega)];rfl
theorem mV (B:Nat->List UInt8)(h:∀ i,(B i).length=32)(n:Nat):(je B n).length=n:=by
 unfold je;rw[Jv,mU B h];omega
theorem Bt (B:Nat->List UInt8)(h:∀ i,(B i).length=32)(n i j:Nat)(c:j<32)(b:32*i+(j+1)=n):di B i++(B i).take (j+1)=je B n:=by
 have e:n - 32*i=j+1:=by omega
 have a:=mU B h i;rw[qX B h n (i+1) (by omega),di,List.take_append,a,e,JG (l:=di B i) (by omega)]
theorem Bu (B:Nat->List UInt8):je B 0=[]:=rfl
theorem IQ (B:Nat->List UInt8)(h:∀ i,(B i).length=32):je B 32=B 0:=by
 rw[qX B h 32 1 (by omega),di,di,JR,JG (by rw[h];omega)]
theorem mW (k b:List UInt8):(dZ k b).length=32:=jd _
theorem Bv (k:List UInt8):bR (bR k)=bR k:=by
 have h:=oX k;obtain⟨K,a⟩:∃ K,bR k=K:=⟨_,rfl⟩;rw[a] at h ⊢;unfold bR iF;rw[if_neg (by omega),h];simp
theorem Bw (k b:List UInt8):dZ (bR k) b=dZ k b:=by unfold dZ;rw[Bv]
def dn (k info:List UInt8):Nat->List UInt8
 | 0=>dZ k (info++be 1 1)
 | i+1=>dZ k (dn k info i++info++be 1 (i+2))
theorem jf (k info:List UInt8):∀ i,(dn k info i).length=32
 | 0=>mW _ _
 | _+1=>mW _ _
def fh (k info:List UInt8):Nat->List UInt8
 | 0=>[]
 | i+1=>dn k info i
theorem uJ (k info:List UInt8)(i:Nat):dn k info i=dZ k (fh k info i++info++be 1 (i+1)):=by
 cases i with
 | zero=>simp[dn,fh]
 | succ i=>rfl
theorem uK (k info:List UInt8):∀ i,(fh k info i).length<=32
 | 0=>by simp[fh]
 | i+1=>by rw[fh,jf];omega
def iH (k info:List UInt8)(n:Nat):List UInt8:=je (dn k info) n
def dD (nonce:List UInt8)(q:Nat):List UInt8:=nonce++be 4 (q+1)
def fG (K nonce b:List UInt8)(j:Nat):UInt8:=b.getD j 0 ^^^ (ed K (dD nonce (j / 16))).getD (j % 16) 0
def bL (K nonce b:List UInt8):List UInt8:=tab b.length (fG K nonce b)
def ji (key nonce:List UInt8):Int:=if key.length=16/\nonce.length=12 then 0 else 1
def jj (key nonce b:List UInt8):List UInt8:=if key.length=16/\nonce.length=12 then bL (cK key) nonce b else []
theorem kj (K a b:List UInt8):(bL K a b).length=b.length:=fi _ _
theorem vH (a:List UInt8)(q:Nat):(dD a q).length=a.length+4:=by simp[dD,bl]
theorem rD (K a b:List UInt8)(j:Nat)(h:j<b.length):(bL K a b).getD j 0=fG K a b j:=iJ _ _ _ h
theorem Cu (K a b:List UInt8)(j:Nat)(h:j<b.length):(bL K a b)[j]?=some (fG K a b j):=by simp[bL,tab,h]
theorem Cv (U:U8 P t e){p:Array Oper}{rest:List Oper}{o:Oper}(y:o.guard=none)(d s:Operand)
  (D:o.op=.call { callee:=.builtin .copy,args:=#[d,s],argTypes:=#[t,t] })
  (T:TypeId) (g f:Nat) (v:Value) (l m:List UInt8) (c n:Nat) (G:a.eval d=.slice (some ⟨g,f,none⟩) n c) (B:a.eval s=v) (z:By T w g m) (C:Rd w v l) (E:l.length<=n) (R:0<l.length) (M:f+l.length<=m.length)
  (h:∀ w',By T w' g (m.take f++(l++m.drop (f+l.length)))->But g w w'->wpList P p Q rest (a.put o.dst (.int .i64 (l.length:Int))) w'):wpList P p Q (o :: rest) a w:=by
 obtain⟨i,F,L,k,H⟩:=U.hi
 have r:(P.info? e).map (·.size)=some 1:=by rw[F];simp[k]
 obtain⟨x,S,rfl,O,N,J,I⟩:=C
 cases x with
 | none=>
  have:=J rfl
  omega
 | some x=>
  refine wpList_copy_own y d s t t D e U.ht r g f _ _ x _ _ G B _ _ z (Lib.byteCells l) (by rw[cG];exact(Ma E).symm) (λj aa u=>?_) (by simp[Lib.byteCells];omega) (λaa A=>?_) ?_
  ·have q:j<l.length:=by
    have:=(JH.1 u).1
    rwa [cG] at this
   rw[gd l j q] at u
   cases u
   exact I x rfl j q
  ·obtain⟨b,_,rfl⟩:=JO.1 A
   rfl
  ·have K:(goInt (Lib.byteCells l).length)=.int .i64 (l.length:Int):=by rw[cG];rfl
   rw[K]
   refine h _ ?_ (But.setRow g w _)
   unfold By
   rw[setRow_heap w g _ _ T _ z]
   congr 2
   simp[Lib.byteCells,List.map_drop,List.map_take]
theorem EX (f:Nat)(s:List UInt8)(w:World)(hs:s.length=16)(g:By 231 w f s):
  Calls prog 243 #[.pointer (some ⟨f,0,none⟩)] w λe w'=>e=.returned (.tuple #[])/\By 231 w' f (du s)/\Wr f w w':=by
 have H0:=Lib.hid (ij.begin hs);have HN:=Lib.hid (λl n h hn a b c d=>ij.next (t:=s) (l:=l) (n:=n) h hn a b c d);have HA:=Lib.hid (λl (h:ij s (4*4) l)=>h.all);generalize du s=X at *;go_enter func243,ntmps243;go_wp2_with fail;go_loopw[2] (λp wr=>∃ (n:Nat) (l:List UInt8),n<=4/\p=.int .i64 (4*n:Nat)/\Hid (ij s (4*n) l)/\By 231 wr f l/\Wr f w wr) (λp _=>16 - (intOf p).toNat)
 case atStart=>exact⟨0,s,by omega,rfl,H0,g,Wr.refl _ _⟩
 case round=>
  clear g H0;obtain⟨n,l,hn,rfl,j,g,hw⟩:=hrel;by_cases z:n<4
  ·have hl:=j.out.1
   have g0:l.getD (4*n) 0=s.getD (4*n) 0:=by rw[j.out.2 _ (by omega),if_neg (by omega)]
   have g1:l.getD (4*n+1) 0=s.getD (4*n+1) 0:=by rw[j.out.2 _ (by omega),if_neg (by omega)]
   have g2:l.getD (4*n+2) 0=s.getD (4*n+2) 0:=by rw[j.out.2 _ (by omega),if_neg (by omega)]
   have g3:l.getD (4*n+3) 0=s.getD (4*n+3) 0:=by rw[j.out.2 _ (by omega),if_neg (by omega)]
   have N:=g.cell (4*n) (by omega);have r:=g.cell (4*n+1) (by omega);have o:=g.cell (4*n+2) (by omega);have u:=g.cell (4*n+3) (by omega);have H:=g.frozen (4*n);rw[g0] at N;rw[g1] at r;rw[g2] at o;rw[g3] at u;obtain⟨a,ha⟩:∃ a,s.getD (4*n) 0=a:=⟨_,rfl⟩;obtain⟨b,hb⟩:∃ b,s.getD (4*n+1) 0=b:=⟨_,rfl⟩;obtain⟨c,hc⟩:∃ c,s.getD (4*n+2) 0=c:=⟨_,rfl⟩;obtain⟨d,hd⟩:∃ d,s.getD (4*n+3) 0=d:=⟨_,rfl⟩;have HT:=Lib.hid (HN.out l n j.out z a b c d ha hb hc hd);rw[ha] at N;rw[hb] at r;rw[hc] at o;rw[hd] at u;have hN:n<4:=z;have q:((4*n:Nat):Int)<16:=by omega
   obtain⟨i,hi⟩:∃ i,4*n=i:=⟨_,rfl⟩;rw[hi] at q N r o u H HT ⊢;have au:i+3<16:=by omega
   have i1:IntKind.i64.wrap ((i:Int)+1)=(i:Int)+1:=IW _ (by omega);have i2:IntKind.i64.wrap ((i:Int)+2)=(i:Int)+2:=IW _ (by omega);have i3:IntKind.i64.wrap ((i:Int)+3)=(i:Int)+3:=IW _ (by omega);have q1:(i:Int)+1<16:=by omega
   have q2:(i:Int)+2<16:=by omega
   have q3:(i:Int)+3<16:=by omega
   have t1:((i:Int)+1).toNat=i+1:=by omega
   have t2:((i:Int)+2).toNat=i+2:=by omega
   have t3:((i:Int)+3).toNat=i+3:=by omega
   have HI:=Lib.hid hi;have p1:(0:Int)<=(i:Int)+1:=by omega
   have p2:(0:Int)<=(i:Int)+2:=by omega
   have aV:(0:Int)<=(i:Int)+3:=by omega
   obtain⟨m1,m2,m3⟩:=ES a b c d;have m0:=pR a b c d;have M:=bV a b;have L:=bV (a ^^^ b) c;have K:=bV (a ^^^ b ^^^ c) d;have x4:=bV b c;have x5:=bV c d;have x6:=bV d a;have J:=bV (a ^^^ b ^^^ c ^^^ d) (bc (a ^^^ b) 2);have y1:=bV (a ^^^ b ^^^ c ^^^ d) (bc (b ^^^ c) 2);have y2:=bV (a ^^^ b ^^^ c ^^^ d) (bc (c ^^^ d) 2);have y3:=bV (a ^^^ b ^^^ c ^^^ d) (bc (d ^^^ a) 2);have v:=bV a (a ^^^ b ^^^ c ^^^ d ^^^ bc (a ^^^ b) 2);have T:=bV b (a ^^^ b ^^^ c ^^^ d ^^^ bc (b ^^^ c) 2);have S:=bV c (a ^^^ b ^^^ c ^^^ d ^^^ bc (c ^^^ d) 2);have R:=bV d (a ^^^ b ^^^ c ^^^ d ^^^ bc (d ^^^ a) 2);rw[<-m0] at v;rw[<-m1] at T;rw[<-m2] at S;rw[<-m3] at R;have d0:=Lib.hid (λW=>lT (a ^^^ b) W);have d1:=Lib.hid (λW=>lT (b ^^^ c) W);have d2:=Lib.hid (λW=>lT (c ^^^ d) W);have d3:=Lib.hid (λW=>lT (d ^^^ a) W);clear m0 m1 m2 m3;generalize ec a b c d=A at *;generalize ec b c d a=B at *;generalize ec c d a b=C at *;generalize ec d a b c=D at *;generalize a ^^^ b ^^^ c ^^^ d ^^^ bc (a ^^^ b) 2=E0 at *;generalize a ^^^ b ^^^ c ^^^ d ^^^ bc (b ^^^ c) 2=E1 at *;generalize a ^^^ b ^^^ c ^^^ d ^^^ bc (c ^^^ d) 2=E2 at *;generalize a ^^^ b ^^^ c ^^^ d ^^^ bc (d ^^^ a) 2=E3 at *;generalize bc (a ^^^ b) 2=D0 at *;generalize bc (b ^^^ c) 2=D1 at *;generalize bc (c ^^^ d) 2=D2 at *;generalize bc (d ^^^ a) 2=D3 at *;generalize a ^^^ b ^^^ c ^^^ d=F at *;generalize a ^^^ b ^^^ c=G at *;generalize a ^^^ b=X0 at *;generalize b ^^^ c=X1 at *;generalize c ^^^ d=X2 at *;generalize d ^^^ a=X3 at *;have P1:=Lib.hid (Jb x4 (Jb y1 (Jb T (Jb i1 (Jb q1 (Jb t1 p1))))));have P2:=Lib.hid (Jb x5 (Jb y2 (Jb S (Jb i2 (Jb q2 (Jb t2 p2))))));have P3:=Lib.hid (Jb x6 (Jb y3 (Jb R (Jb i3 (Jb q3 (Jb t3 aV))))));have PX:=Lib.hid (Jb M (Jb L K));have P0:=Lib.hid (Jb J v);have HF:=Lib.hid H;clear g0 g1 g2 g3 ha hb hc hd hN hi j M L K x4 x5 x6 J y1 y2 y3 v T S R H;go_wp2_with fail;go_region
   obtain⟨M,L,K⟩:=PX.out;clear i1 i2 i3 p1 p2 aV t1 t2 t3 q1 q2 q3;have C1:=Lib.hid r;have C2:=Lib.hid o;have C3:=Lib.hid u;clear r o u;go_wp2_with fail;have H:=HF.out;obtain⟨J,v⟩:=P0.out;clear L K;apply later
   case ways=>
    intro key;go_region_with (go_at_call 240;refine(d0.out _).mono ?_;rintro _ _ ⟨rfl,rfl⟩)
    all_goals exact key.out
   case rest=>
    constructor;have m:By 231 ((wr.setCell ⟨f,i,none⟩ (.int .u8 (A.toNat:Int))).drew.drew) f (l.set i A):=g.set (i) A rfl;have y:Wr f w ((wr.setCell ⟨f,i,none⟩ (.int .u8 (A.toNat:Int))).drew.drew):=((hw.setCell (i) _).drew).drew;have ar:Hid (((wr.setCell ⟨f,i,none⟩ (.int .u8 (A.toNat:Int))).drew.drew).cell? ⟨f,i+1,none⟩=some (.int .u8 (b.toNat:Int))):=(Lb _ _ _ _ (by simp)).trans C1.out;have aq:Hid (((wr.setCell ⟨f,i,none⟩ (.int .u8 (A.toNat:Int))).drew.drew).cell? ⟨f,i+2,none⟩=some (.int .u8 (c.toNat:Int))):=(Lb _ _ _ _ (by simp)).trans C2.out;have ao:Hid (((wr.setCell ⟨f,i,none⟩ (.int .u8 (A.toNat:Int))).drew.drew).cell? ⟨f,i+3,none⟩=some (.int .u8 (d.toNat:Int))):=(Lb _ _ _ _ (by simp)).trans C3.out;generalize (wr.setCell ⟨f,i,none⟩ (.int .u8 (A.toNat:Int))).drew.drew=I at *;have r:=ar.out;have f1:=m.frozen (i+1);obtain⟨Z,V,Q,ai,ae,ab,ag⟩:=P1.out;clear g hw M J v N H;go_wp2_with fail;apply later
    case ways=>
     intro key;go_region_with (go_at_call 240;refine(d1.out _).mono ?_;rintro _ _ ⟨rfl,rfl⟩)
     all_goals exact key.out
    case rest=>
     constructor;have k:By 231 ((I.setCell ⟨f,i+1,none⟩ (.int .u8 (B.toNat:Int))).drew) f ((l.set i A).set (i+1) B):=m.set (i+1) B rfl;have x:Wr f w ((I.setCell ⟨f,i+1,none⟩ (.int .u8 (B.toNat:Int))).drew):=(y.setCell (i+1) _).drew;have ap:Hid (((I.setCell ⟨f,i+1,none⟩ (.int .u8 (B.toNat:Int))).drew).cell? ⟨f,i+2,none⟩=some (.int .u8 (c.toNat:Int))):=(Lb _ _ _ _ (by simp)).trans aq.out;have an:Hid (((I.setCell ⟨f,i+1,none⟩ (.int .u8 (B.toNat:Int))).drew).cell? ⟨f,i+3,none⟩=some (.int .u8 (d.toNat:Int))):=(Lb _ _ _ _ (by simp)).trans ao.out;generalize (I.setCell ⟨f,i+1,none⟩ (.int .u8 (B.toNat:Int))).drew=O at *;have o:=ap.out;have f2:=k.frozen (i+2);obtain⟨Y,U,P,ah,ad,aa,af⟩:=P2.out;clear m y r f1 Z V Q ai ae ab ag;go_wp2_with fail;apply later
     case ways=>
      intro key;go_region_with (go_at_call 240;refine(d2.out _).mono ?_;rintro _ _ ⟨rfl,rfl⟩)
      all_goals exact key.out
     case rest=>
      constructor;have E:By 231 ((O.setCell ⟨f,i+2,none⟩ (.int .u8 (C.toNat:Int))).drew) f (((l.set i A).set (i+1) B).set (i+2) C):=k.set (i+2) C rfl;have ak:Wr f w ((O.setCell ⟨f,i+2,none⟩ (.int .u8 (C.toNat:Int))).drew):=(x.setCell (i+2) _).drew;have am:Hid (((O.setCell ⟨f,i+2,none⟩ (.int .u8 (C.toNat:Int))).drew).cell? ⟨f,i+3,none⟩=some (.int .u8 (d.toNat:Int))):=(Lb _ _ _ _ (by simp)).trans an.out;generalize (O.setCell ⟨f,i+2,none⟩ (.int .u8 (C.toNat:Int))).drew=W3 at *;have u:=am.out;have f3:=E.frozen (i+3);obtain⟨ax,aw,av,aB,az,ay,aA⟩:=P3.out;clear k x o f2 Y U P ah ad aa af;go_wp2_with fail;apply later
      case ways=>
       intro key;go_region_with (go_at_call 240;refine(d3.out _).mono ?_;rintro _ _ ⟨rfl,rfl⟩)
       all_goals exact key.out
      case rest=>
       constructor;have al:By 231 ((W3.setCell ⟨f,i+3,none⟩ (.int .u8 (D.toNat:Int))).drew) f ((((l.set i A).set (i+1) B).set (i+2) C).set (i+3) D):=E.set (i+3) D rfl;have aj:Wr f w ((W3.setCell ⟨f,i+3,none⟩ (.int .u8 (D.toNat:Int))).drew):=(ak.setCell (i+3) _).drew;generalize (W3.setCell ⟨f,i+3,none⟩ (.int .u8 (D.toNat:Int))).drew=W4 at *;have i4:IntKind.i64.wrap ((i:Int)+4)=((4*(n+1):Nat):Int):=by rw[IW _ (by omega),<-HI.out];omega
       go_wp2_with fail;go_roundw
       case rel=>exact⟨n+1,_,by omega,rfl,HT,al,aj⟩
       case measure=>have hI:=HI.out;simp[intOf];omega
  ·obtain rfl:n=4:=by omega
   have hx:=HA.out l j.out;rw[hx] at g;go_wp2_with fail;go_end0
   exact⟨rfl,g,hw⟩
theorem Fa {cs:List Value}(k:Kp w w')(h:w.rangeAt b o cs):w'.rangeAt b o cs:=λj v a=>k.cell (h j v a)
theorem sE (k:Kp w w')(h:w.there b o n):w'.there b o n:=λj c=>by
 obtain⟨f,e⟩:=h j c;obtain⟨v,a⟩:=Option.isSome_iff_exists.1 f;have d:=Jz w _ a;refine⟨by rw[k.cell a];rfl,?_⟩;rw[<-e];have:=k.block b d;simp only[World.frozen?,this]
theorem xZ {o' n':Nat}(h:w.there b o n)(d:o<=o')(c:o'+n'<=o+n):w.there b o' n':=λj a=>by
 have:=h (o' - o+j) (by omega);rwa [show o+(o' - o+j)=o'+j by omega] at this
theorem dG.range (h:dG w b o K)(e:16*n+16<=K.length):w.rangeAt b (o+16*n) (Lib.byteCells (cz K n)):=λj v a=>by
 have f:=ia e;have c:j<(cz K n).length:=by
  have:=(JH.1 a).1;rwa [cG] at this
 rw[gd _ j c] at a;cases a;have d:=h (16*n+j) (by omega);rw[<-fU (by omega),IU,IV c] at d;rw[Lv,d];rfl
theorem dG.row (h:dG w b o K)(c:16*n+16<=K.length):dG w b (o+16*n) (cz K n):=λi a=>by
 rw[ia c] at a;rw[fU a,Lv];exact h (16*n+i) (by omega)
theorem sG (K:List UInt8)(m i:Nat)(h:i<m):(K.take m).getD i 0=K.getD i 0:=by
 rw[IU,Ls h,IU]
theorem dG.store (h:dG w b o (K.take (16*(n+1))))(f:w.there b o K.length)(g:16*(n+1)+16<=K.length):
  dG (w.setCells b (o+16*(n+1)) (Lib.byteCells (cz K (n+1)))) b o (K.take (16*(n+1+1))):=λi k=>by
 have l:=ia g;have c:i<16*(n+1+1):=by rw[Jv] at k;omega
 rw[sG _ _ _ c];by_cases d:i<16*(n+1)
 ·rw[World.cell?_setCells_out b _ _ _ _ (λ_ _=>.inl (by show o+i<o+16*(n+1);omega))]
  have:=h i (by rw[Jv];omega);rwa [sG _ _ _ d] at this
 ·have a:i - 16*(n+1)<(cz K (n+1)).length:=by omega
  have:=World.cell?_setCells_in b (Lib.byteCells (cz K (n+1))) (o+16*(n+1)) w (λj a=>((xZ f (o':=o+16*(n+1)) (n':=16) (by omega) (by omega)) j (by rw[cG] at a;omega)).1) (i - 16*(n+1)) (by rw[cG];exact a);rw[show o+16*(n+1)+(i - 16*(n+1))=o+i by omega] at this;rw[this];have e:=gd _ _ a;rw[IV (by rw[cG];exact a)] at e;rw[Lz e];have:=fU (K:=K) (n:=n+1) (j:=i - 16*(n+1)) (by omega);rw[show 16*(n+1)+(i - 16*(n+1))=i by omega,IU,IV a] at this;rw[<-this];rfl
theorem ya {g:Nat}:∀ (vs:List Value) (o:Nat) (A w:World),Wr g A w->Wr g A (w.setCells g o vs)
 | [],_,_,_,h=>h
 | v :: r,o,A,w,h=>ya r (o+1) A _ (h.setCell o v)
structure Cph (w:World)(gc bx:Nat)(K:List UInt8):Prop where
 ptr:w.cell? ⟨gc,0,none⟩=some (.pointer (some ⟨bx,0,none⟩))
 rows:dG w gc 1 K
 box:By 283 w bx fL
theorem Cph.kp {a:Nat}(h:Cph w gc a K)(k:Kp w w'):Cph w' gc a K:=⟨k.cell h.ptr,h.rows.kp k,h.box.kp k⟩
theorem Cph.wr {a:Nat}(h:Cph w gc b K)(k:Wr a w w')(c:gc≠a)(d:b≠a):Cph w' gc b K:=⟨k.cell h.ptr c,h.rows.wr k c,k.by h.box d⟩
theorem Fb:∀ w,(zeroValue 261).run prog w=.ok (.agg (#[.pointer none]++bD (List.replicate 176 0))) w:=(zero_of_info (n:=177) (by kernel_rfl)).1
theorem Fc (l:List UInt8)(v:Value):(#[Value.pointer none]++bD l).setIfInBounds 0 v=#[v]++bD l:=by
 apply Array.ext';simp
theorem Fd {p:Value}{key:List UInt8}(a:w.heap[gc]?=some (.cells ((#[p]++bD (List.replicate 176 0)).toList.take 1++(Lib.byteCells key++(#[p]++bD (List.replicate 176 0)).toList.drop (1+(Lib.byteCells key).length))).toArray T (0,0)))(c:key.length=16):
  w.cell? ⟨gc,0,none⟩=some p/\dG w gc 1 key/\w.there gc 1 176:=by
 have e:((#[p]++bD (List.replicate 176 0)).toList.take 1++(Lib.byteCells key++(#[p]++bD (List.replicate 176 0)).toList.drop (1+(Lib.byteCells key).length)))=p :: (Lib.byteCells key++(Lib.byteCells (List.replicate 176 0)).drop 16):=by
  rw[cG,c];simp[bD]
 rw[e] at a;have d:(Lib.byteCells key++(Lib.byteCells (List.replicate 176 0)).drop 16).length=176:=by rw[Jc,Ky,cG,cG,c,JT]
 refine⟨by rw[cell_of_row _ _ _ _ _ _ a];simp,λi b=>?_,λj f=>⟨?_,?_⟩⟩
 ·rw[cell_of_row _ _ _ _ _ _ a,Jj,Mb 1 i,Jk,JE (by rw[cG];exact b),gd key i b,IU,IV b]
  rfl
 ·rw[cell_of_row _ _ _ _ _ _ a,Jj,Mb 1 j,Jk,IV (by omega)]
  rfl
 ·simp[World.frozen?,a]
theorem Fe {key:List UInt8}(h:key.length=16):(cK key).take (16*(0+1))=key:=by
 have:=Cp h;unfold cz at this;simpa using this
theorem Ff (aa:Value)(key:List UInt8)(w:World)(X:Rd w aa key)(x:key.length=16):
  Calls prog 205 #[aa] w λe w'=>(∃ gc f,e=.returned (.pointer (some ⟨gc,0,none⟩))/\Cph w' gc f (cK key)/\w.heap.size<=gc/\w.heap.size<=f)/\Kp w w':=by
 have U:=aj;have t:(prog.info? 5).map (·.size)=some 1:=by kernel_rfl
 obtain⟨ad,c,rfl,al,aC⟩:=X.shape;rw[x] at al X ⊢;obtain⟨ab,ao,rfl,aD,O⟩:=X.at 0 (by omega);have z1:=Fb;have HS:=Lib.hid (Fc (List.replicate 176 0));have S:=Lib.hid (fun(w:World) (gc:Nat) (T:TypeId) (p:Value) h=>Fd (w:=w) (gc:=gc) (T:=T) (p:=p) (key:=key) h x);have G:(#[Value.pointer none]++bD (List.replicate 176 0)).size=177:=by rw[Array.size_append,jr];rfl
 obtain⟨Z,hZ⟩:∃ Z,#[Value.pointer none]++bD (List.replicate 176 0)=Z:=⟨_,rfl⟩;rw[hZ] at z1 HS G;have hz:¬Z=#[]:=λh=>by rw[h] at G;simp at G
 clear hZ;have HL:=Lib.hid (nA x);have HT:=Lib.hid (Fe x);have aw:=Lib.hid (Cq x);generalize cK key=K at *;go_enter func205,ntmps205;go_wp2_with fail;refine(EO w).mono ?_;rintro _ q ⟨⟨f,rfl,s,am⟩,V⟩;have J:=V.size;obtain⟨Y,hY⟩:∃ Y,Z.setIfInBounds 0 (Value.pointer (some ⟨f,0,none⟩))=Y:=⟨_,rfl⟩;have C:=HS.out (Value.pointer (some ⟨f,0,none⟩));rw[hY] at C;have HY:=Lib.hid C;have P:Y.size=177:=by rw[<-hY,Mq,G]
 clear C;have z:Hid (∀ W,Kp w W->∀ j v,(Lib.byteCells key)[j]?=some v->W.cell? ((⟨ab,ao,none⟩:Addr).add j)=some v):=λW hW j v hj=>by
  have u:j<key.length:=by
   have:=(JH.1 hj).1;rwa [cG] at this
  rw[gd key j u] at hj;cases hj;have:=hW.cell (O j (by omega));rw[Addr.add_mid,this,IU,IV u];rfl
 have E:=Lib.hid (cG key);clear O X;go_wp2_with(refine wpList_copy_own (cs:=Lib.byteCells key) rfl (.tmp 13) (.tmp 14) 24 24 rfl 5 underlying24 t q.heap.size 1 16 16 ⟨ab,ao,none⟩ 16 c rfl rfl Y 261 (heap_alloc_new q _) (by rw[E.out,x];rfl) (z.out _ (V.alloc _)) (by rw[E.out,x,P];omega) (λv hv=>by obtain⟨b,_,rfl⟩:=JO.1 hv;rfl) ?_)
 obtain⟨W2,m⟩:∃ W,(q.alloc (.cells Y 261)).setRow q.heap.size (Y.toList.take 1++(Lib.byteCells key++Y.toList.drop (1+(Lib.byteCells key).length))).toArray=W:=⟨_,rfl⟩;rw[m];have hg:W2.heap[q.heap.size]?=some (.cells (Y.toList.take 1++(Lib.byteCells key++Y.toList.drop (1+(Lib.byteCells key).length))).toArray 261 (0,0)):=by
  rw[<-m];exact setRow_heap _ _ Y _ _ _ (heap_alloc_new q _)
 have k2:Kp w W2:=by
  rw[<-m];exact Go.Proofs.YthmhklmkgkfcpaaGreatDoor.below_setRow (V.alloc _) J _
 have X2:By 283 W2 f fL:=by
  rw[<-m];exact(Go.Proofs.YthmhklmkgkfcpaaGreatDoor.setRow_other _ _ _ _ (by have:=s.lt;omega)).trans (s.kp ((Kp.refl q).alloc _))
 rw[HY.out] at hg;obtain⟨p2,l2,t2⟩:=S.out _ _ _ _ hg;have N:f≠q.heap.size:=by have:=s.lt;omega
 rw[<-HT.out] at l2;have L:w.heap.size<=q.heap.size:=J;generalize q.heap.size=gc at *;clear hg m E z S hY HY P s V G HS z1 hz x U t HT;have az:prog.underlying 231=some (.array 16 5):=underlying231;have aB:(prog.info? 231).map (·.size)=some 16:=by kernel_rfl
 go_loopw[4,16] (λr p wr=>∃ n:Nat,n<=10/\p=.int .i64 n/\r=.int .u8 ((eh n).toNat:Int)/\wr.cell? ⟨gc,0,none⟩=some (.pointer (some ⟨f,0,none⟩))/\dG wr gc 1 (K.take (16*(n+1)))/\wr.there gc 1 176/\By 283 wr f fL/\Kp w wr) (λ_ p _=>10 - (intOf p).toNat)
 case atStart=>exact⟨0,by omega,rfl,rfl,p2,l2,t2,X2,k2⟩
 case round=>
  clear p2 l2 t2 X2 k2;obtain⟨n,hn,rfl,rfl,hp,u,ht,s,B⟩:=hrel;by_cases af:n<10
  ·have q1:(n:Int)<10:=by omega
   have q2:(n:Int)<11:=by omega
   have q3:(n:Int)+1<11:=by omega
   have q4:(0:Int)<=(n:Int)+1:=by omega
   have i1:IntKind.i64.wrap ((n:Int)+1)=(n:Int)+1:=IW _ (by omega);have i2:((n:Int)+1).toNat=n+1:=by omega
   have ap:=HL.out;have k:cz (K.take (16*(n+1))) n=cz K n:=by
    refine lD 16 _ _ (ia (by rw[Jv];omega)) (ia (by omega)) λi hi=>?_
    rw[fU hi,fU hi,sG _ _ _ (by omega)]
   have hr:=u.range (n:=n) (by rw[Jv];omega);rw[k,Lm 16 n] at hr;have ae:=xZ ht (o':=1+16*(n+1)) (n':=16) (by omega) (by omega);rw[Lm 16 (n+1)] at ae;have ah:(Lib.byteCells (cz K n)).length=16:=by rw[cG];exact ia (by omega)
   have ag:(Lib.byteCells (cz K (n+1))).length=16:=by rw[cG];exact ia (by omega)
   have Q:=aw.out n af;have aA:∀ v∈Lib.byteCells (cz K (n+1)),v.oneCell'=true:=λv hv=>by obtain⟨b,_,rfl⟩:=JO.1 hv;rfl
   have l:Calls prog 239 #[.pointer (some ⟨gc,0,none⟩),.agg (Lib.byteCells (cz K n)).toArray,.int .u8 ((eh n).toNat:Int)] wr.drew λe w'=>e=.returned (.agg (Lib.byteCells (cz K (n+1))).toArray)/\Kp wr.drew w':=
    EZ gc f (cz K n) (cz K (n+1)) (eh n) wr.drew (ia (by omega)) Q hp s.drew
   have D:=Lib.hid l;have HD:=Lib.hid (λW=>lT (eh n) W);have HK:=Lib.hid B;have HP:=Lib.hid hp;have ax:=Lib.hid u;have R:=Lib.hid ht;have ar:=Lib.hid s;have aE:=Lib.hid k;generalize M:Lib.byteCells (cz K n)=aq at *;generalize y:Lib.byteCells (cz K (n+1))=d at *;have HC:=Lib.hid y;clear l Q hp u ht s B k M y;go_wp2_with fail;go_region_held3 (λW=>W.rangeAt gc (1+n*16) aq/\W.there gc (1+(n+1)*16) 16)
    (first
     | (refine⟨(World.rangeAt_drew _ _ _ _).2 ?_,(World.there_drew _ _ _ _).2 ?_⟩ <;> assumption)
     | (go_split_ands;exact⟨Fa (by assumption) (by assumption),sE (by assumption) (by assumption)⟩)
     | (go_split_ands;exact⟨World.rangeAt_setCells_apart (by assumption) _ _ _ (by omega),World.there_setCells (by assumption) _ _ _⟩))
    (first
     | (go_at_call 239;refine D.out.mono ?_;rintro _ o ⟨rfl,a⟩))
   have k7:=a;have ak:w.heap.size<=o.heap.size:=Js HK.out.size a.size;have A:=ya (g:=gc) d (1+(n+1)*16) o o (Wr.refl gc o);have ai:Kp w (o.setCells gc (1+(n+1)*16) d):=Below.trans (show Below w.heap.size w o from HK.out.drew.trans a) (A.below ak L);have H:(o.setCells gc (1+(n+1)*16) d).cell? ⟨gc,0,none⟩=some (.pointer (some ⟨f,0,none⟩)):=by
    rw[World.cell?_setCells_out gc _ _ _ _ (λ_ _=>.inl (by show 0<1+(n+1)*16;omega))];exact a.cell HP.out
   have F:(o.setCells gc (1+(n+1)*16) d).there gc 1 176:=World.there_setCells (sE a ((World.there_drew _ _ _ _).2 R.out)) _ _ _;have an:=A.by (ar.out.drew.kp a) N;have I:dG (o.setCells gc (1+(n+1)*16) d) gc 1 (K.take (16*(n+1+1))):=by
    rw[<-HC.out,Lm (n+1) 16];exact dG.store (dG.kp (show dG wr.drew gc 1 _ from ax.out) a) (by rw[HL.out];exact sE a ((World.there_drew _ _ _ _).2 R.out)) (by rw[HL.out];omega)
   generalize o.setCells gc (1+(n+1)*16) d=W8 at *;have av:=Lib.hid H;have ay:=Lib.hid I;have au:=Lib.hid F;clear H I F A;go_wp2_with(go_at_call 240;refine(HD.out _).mono ?_;rintro _ _ ⟨rfl,rfl⟩)
   go_roundw
   case rel=>exact⟨n+1,by omega,by go_num,rfl,av.out,ay.out,au.out,an,ai⟩
   case measure=>simp[intOf];omega
  ·obtain rfl:n=10:=by omega
   have ap:=HL.out;rw[JG (by omega)] at u;go_wp2_with fail;go_ret;exact⟨⟨gc,f,rfl,⟨hp,u,s⟩,L,am⟩,B⟩
theorem sH (s K:List UInt8)(n:Nat):fM s (cz K n)=dL s K n:=by
 unfold fM dL tab;apply Mo;intro i a;rw[fU (by simpa using a)]
theorem Fg (K s:List UInt8)(n:Nat)(h:n+1<10):dL (du (cJ (dw K s n))) K (n+1)=dw K s (n+1):=by
 rw[dw,ru,if_pos h]
theorem Fh (K s:List UInt8)(n:Nat)(h:¬n+1<10):dL (cJ (dw K s n)) K (n+1)=dw K s (n+1):=by
 rw[dw,ru,if_neg h]
theorem Fi (gc a E:Nat)(s K:List UInt8)(w:World)(R:s.length=16)(hK:K.length=176)(b:gc≠a)(g:E≠a)(M:Cph w gc E K)(A:By 231 w a s):
  Calls prog 206 #[.pointer (some ⟨gc,0,none⟩),.pointer (some ⟨a,0,none⟩)] w λe w'=>e=.returned (.tuple #[])/\By 231 w' a (ed K s)/\Wr a w w':=by
 have G:Hid (∀ n,n<=10->(cz K n).length=16):=λn I=>ia (by omega)
 have f:Hid (∀ W n,n<=10->Cph W gc E K->dG W gc (1+n*16) (cz K n)):=λW n I h=>by
  rw[Lm];exact h.rows.row (by omega)
 have O:=f.out w 0 (by omega) M;have x:Hid (∀ n,(dw K s n).length=16):=rx K s;have o:=sA a gc 1 s (cz K 0) w R (G.out 0 (by omega)) b A O;rw[sH] at o;have j:Calls prog 241 #[.pointer (some ⟨a,0,none⟩),.pointer (some ⟨gc,1,none⟩)] w λe w'=>e=.returned (.tuple #[])/\By 231 w' a (dw K s 0)/\Wr a w w':=o
 clear o O;go_enter func206,ntmps206;go_wp2_with fail;refine j.mono ?_;rintro _ T ⟨rfl,z,v⟩;clear j A;go_wp2_with fail;go_loopw[11] (λp wr=>∃ n:Nat,n<=10/\p=.int .i64 n/\By 231 wr a (dw K s n)/\Wr a w wr) (λp _=>10 - (intOf p).toNat)
 case atStart=>exact⟨0,by omega,rfl,z,v⟩
 case round=>
  clear z v;obtain⟨n,I,rfl,A,C⟩:=hrel;by_cases S:n<10
  ·have X:(n:Int)<10:=by omega
   have V:(n:Int)+1<11:=by omega
   have U:(0:Int)<=(n:Int)+1:=by omega
   have Z:IntKind.i64.wrap ((n:Int)+1)=(n:Int)+1:=IW _ (by omega);have Y:((n:Int)+1).toNat=n+1:=by omega
   have i:=M.wr C b g;have D:=ER gc a E (dw K s n) wr (x.out n) b g i.ptr i.box A;by_cases N:n+1<10
   ·have m:=Lib.hid (Fg K s n N)
    have Q:(n:Int)+1<10:=by omega
    generalize F:dw K s n=L at *;clear F;go_wp2_with fail;refine D.mono ?_;rintro _ w2 ⟨rfl,d,c⟩;have J:=EX a (cJ L) w2 (lU L) d;go_wp2_with fail;refine J.mono ?_;rintro _ H ⟨rfl,y,u⟩;have r:=i.wr (c.trans u) b g;have q:=sA a gc (1+(n+1)*16) (du (cJ L)) (cz K (n+1)) H (xY _) (G.out (n+1) (by omega)) b y (f.out H (n+1) (by omega) r);rw[sH,m.out] at q;have B:=Lib.hid q;clear q D J d y;go_wp2_with fail;refine B.out.mono ?_;rintro _ P ⟨rfl,t,l⟩;have k:=((C.trans c).trans u).trans l;clear B;go_wp2_with fail;go_roundw
    case rel=>exact⟨n+1,by omega,by go_num,t,k⟩
    case measure=>simp[intOf];omega
   ·have m:=Lib.hid (Fh K s n N)
    have Q:¬(n:Int)+1<10:=by omega
    generalize F:dw K s n=L at *;clear F;go_wp2_with fail;refine D.mono ?_;rintro _ w2 ⟨rfl,d,c⟩;have r:=i.wr c b g;have q:=sA a gc (1+(n+1)*16) (cJ L) (cz K (n+1)) w2 (lU _) (G.out (n+1) (by omega)) b d (f.out w2 (n+1) (by omega) r);rw[sH,m.out] at q;have B:=Lib.hid q;clear q D d;go_wp2_with fail;refine B.out.mono ?_;rintro _ P ⟨rfl,t,l⟩;have k:=(C.trans c).trans l;clear B;go_wp2_with fail;go_roundw
    case rel=>exact⟨n+1,by omega,by go_num,t,k⟩
    case measure=>simp[intOf];omega
  ·obtain rfl:n=10:=by omega
   go_wp2_with fail;go_end0
   exact⟨rfl,A,C⟩
theorem Rd.nil (w:World):Rd w (.slice none 0 0) []:=⟨none,0,rfl,Ja _,Jl _,λ_=>rfl,λx a=>by cases a⟩

import Derived.Test.YthmhklmkgkfcpaaGreatDoorX4
import Derived.Test.YthmhklmkgkfcpaaGreatDoorX6
set_option linter.all false
set_option maxHeartbeats 8000000
set_option maxRecDepth 100000
namespace Go.Proofs.YthmhklmkgkfcpaaGreatDoor
open Go.Proofs.Tryz Go.RowKit
variable {A w:World}{P:Program}{Q:Exit->Act->World->Prop}{X:Nat->Prop}{a:Act}{e t:TypeId}{g:Nat}{l x:List UInt8}{n:Int}{o:Oper}{v:Value}
def eQ (n w:Int):Prop:=1<=w/\w<=7/\0<=n/\n<256 ^ w.toNat
instance (n w:Int):Decidable (eQ n w):=by unfold eQ;infer_instance
def jh (n w:Int):Int:=if eQ n w then 0 else 1
def fy (n w:Int):List UInt8:=if eQ n w then be w.toNat n.toNat else []
def fd (n:Int):Int:=if n<0\/1073741823<n then 1 else 0
def cV (n:Nat):List UInt8:=if n<64 then be 1 n else if n<16384 then be 2 (n+16384) else be 4 (n+2147483648)
def dT (n:Int):List UInt8:=if fd n=0 then cV n.toNat else []
def jD (c:Nat):Nat:=if c<64 then 1 else if c<128 then 2 else 4
def um (w:Nat)(l:List UInt8):Int:=if w=1 then val l else if w=2 then val l - 16384 else val l - 2147483648
def tlE (b:List UInt8)(at':Int):Int:=
 if at'<0\/b.length<at' then 1 else if (b.length:Int)=at' then 3 else
 let c:=(b.getD at'.toNat 0).toNat
 if 192<=c then 2 else if b.length - at'<jD c then 3 else
 let n:=um (jD c) ((b.drop at'.toNat).take (jD c))
 if (jD c=2/\n<64)\/(jD c=4/\n<16384) then 2 else 0
def tlN (b:List UInt8)(at':Int):Int:=if tlE b at'=0 then let c:=(b.getD at'.toNat 0).toNat;um (jD c) ((b.drop at'.toNat).take (jD c)) else 0
def tlP (b:List UInt8)(at':Int):Int:=if tlE b at'=0 then at'+jD (b.getD at'.toNat 0).toNat else 0
def iI (x:List UInt8):Int:=fd x.length
def aO (x:List UInt8):List UInt8:=if iI x=0 then cV x.length++x else []
theorem iJ {w:Int}(h:eQ n w):jh n w=0/\fy n w=be w.toNat n.toNat:=by simp[jh,fy,h]
theorem ln {w:Int}(h:¬eQ n w):jh n w=1/\fy n w=[]:=by simp[jh,fy,h]
theorem AF (n:Nat):(cV n).length=if n<64 then 1 else if n<16384 then 2 else 4:=by
 unfold cV;split
 ·exact bq _ _
 ·split <;> exact bq _ _
theorem kj (h:x.length<=1073741823):iI x=0/\aO x=cV x.length++x:=by
 have e:iI x=0:=if_neg (by omega);simp[aO,e]
theorem lq (h:x.length<=1073741823):(aO x).length=(cV x.length).length+x.length:=by rw[(kj h).2,JQ]
def bK (l:List UInt8)(x:UInt8):List UInt8:=l.map λb=>b ^^^ x
def iP (l:List UInt8):List UInt8:=l++List.replicate (64 - l.length) 0
def bX (k:List UInt8):List UInt8:=iP (if 64<k.length then bJ k else k)
def et (k b:List UInt8):List UInt8:=bJ (bK (bX k) 92++bJ (bK (bX k) 54++b))
theorem kq (l:List UInt8)(x:UInt8):(bK l x).length=l.length:=by simp[bK]
theorem Bw (l:List UInt8)(x:UInt8)(i:Nat)(h:i<l.length):(bK l x)[i]?=some (l.getD i 0 ^^^ x):=by
 simp[bK,JF,JG h]
theorem Bz (l m:List UInt8)(x:UInt8):bK (l++m) x=bK l x++bK m x:=by simp[bK]
theorem uO (l:List UInt8)(h:l.length<=64):(iP l).length=64:=by simp[iP];omega
theorem rC (x y:UInt8):bits .xor .u8 (x.toNat:Int) (y.toNat:Int)=((x ^^^ y).toNat:Int):=by
 have e:∀ z:UInt8,BitVec.ofInt IntKind.u8.bits (z.toNat:Int)=z.toBitVec:=λz=>by
  rw[Ls];apply Nw;simp[IntKind.bits]
 simp only[bits,e];change IntKind.u8.wrap (((x ^^^ y).toNat:Nat):Int)=_;rw[LC];have:=(x ^^^ y).toNat_lt;omega
theorem BA (x y:UInt8):bits .or .u8 (x.toNat:Int) (y.toNat:Int)=((x ||| y).toNat:Int):=by
 have e:∀ z:UInt8,BitVec.ofInt IntKind.u8.bits (z.toNat:Int)=z.toBitVec:=λz=>by
  rw[Ls];apply Nw;simp[IntKind.bits]
 simp only[bits,e];change IntKind.u8.wrap (((x ||| y).toNat:Nat):Int)=_;rw[LC];have:=(x ||| y).toNat_lt;omega
theorem BC (a b:UInt8):a ||| b=0↔a=0/\b=0:=by
 constructor
 ·intro h
  have c:a.toBitVec ||| b.toBitVec=0#8:=by rw[<-UInt8.toBitVec_or,h];rfl
  constructor
  ·apply UInt8.toBitVec_inj.1
   exact(BitVec.or_eq_zero_iff.1 c).1
  ·apply UInt8.toBitVec_inj.1
   exact(BitVec.or_eq_zero_iff.1 c).2
 ·rintro⟨rfl,rfl⟩;rfl
theorem BD (a b:UInt8):a ^^^ b=0↔a=b:=by
 constructor
 ·intro h
  have:a ^^^ b ^^^ b=0 ^^^ b:=by rw[h]
  rw[UInt8.xor_assoc,UInt8.xor_self,UInt8.xor_zero,UInt8.zero_xor] at this;exact this
 ·rintro rfl;exact UInt8.xor_self
def orT (l m:List UInt8):Nat->UInt8
 | 0=>0
 | k+1=>orT l m k ||| (l.getD k 0 ^^^ m.getD k 0)
theorem uP (l m:List UInt8):∀ k,k<=l.length->k<=m.length->(orT l m k=0↔l.take k=m.take k)
 | 0,_,_=>by simp[orT]
 | k+1,h,h'=>by
  rw[orT,BC,BD,uP l m k (by omega) (by omega),mn l k (by omega),mn m k (by omega)]
  constructor
  ·rintro⟨a,b⟩;rw[a,b]
  ·intro e
   have:=List.append_inj e (by simp;omega)
   exact⟨this.1,by simpa using this.2⟩
theorem BE (l m:List UInt8)(h:l.length=m.length):decide (orT l m l.length=0)=decide (l=m):=by
 have:=uP l m l.length (JO _) (by omega);rw[Kz,h,Kz,<-h] at this;exact decide_eq_decide.2 this
section
open Go.Shelf
attribute [local go_sem] Oper.semAt_some
theorem mX (h:bg X A w)(a:X g)(k j i f e d c b:Value):
  bg X A ((((((((w.setCell ⟨g,0,none⟩ k).setCell ⟨g,1,none⟩ j).setCell ⟨g,2,none⟩ i).setCell ⟨g,3,none⟩ f).setCell ⟨g,4,none⟩ e).setCell ⟨g,5,none⟩ d).setCell ⟨g,6,none⟩ c).setCell ⟨g,7,none⟩ b):=
 (((((((h.setCell ⟨g,0,none⟩ k a).setCell ⟨g,1,none⟩ j a).setCell ⟨g,2,none⟩ i a).setCell ⟨g,3,none⟩ f a).setCell ⟨g,4,none⟩ e a).setCell ⟨g,5,none⟩ d a).setCell ⟨g,6,none⟩ c a).setCell ⟨g,7,none⟩ b a
theorem mY {T:TypeId}{k:Nat}{l:List UInt32}(h:Arr T w k l)(a:k≠g)(m j i f e d c b:Value):
  Arr T ((((((((w.setCell ⟨g,0,none⟩ m).setCell ⟨g,1,none⟩ j).setCell ⟨g,2,none⟩ i).setCell ⟨g,3,none⟩ f).setCell ⟨g,4,none⟩ e).setCell ⟨g,5,none⟩ d).setCell ⟨g,6,none⟩ c).setCell ⟨g,7,none⟩ b) k l:=
 (((((((h.other ⟨g,0,none⟩ m a).other ⟨g,1,none⟩ j a).other ⟨g,2,none⟩ i a).other ⟨g,3,none⟩ f a).other ⟨g,4,none⟩ e a).other ⟨g,5,none⟩ d a).other ⟨g,6,none⟩ c a).other ⟨g,7,none⟩ b a
theorem uW (w:World)(T:TypeId)(x y:Value):(w.alloc (.cells #[x,y] T)).cell? ⟨w.heap.size,0,none⟩=some x:=by rw[cell_of_row _ _ 0 _ _ _ (heap_alloc_new w _)];rfl
theorem uX (w:World)(T:TypeId)(x y:Value):(w.alloc (.cells #[x,y] T)).cell? ⟨w.heap.size,1,none⟩=some y:=by rw[cell_of_row _ _ 1 _ _ _ (heap_alloc_new w _)];rfl
theorem jO {B:Nat}(h:Ow e w B v l){D:Nat}(j:D<B)(o:Obj):Ow e (w.putObj D o) B v l:=by
 refine⟨h.1,?_⟩;rcases h.2 with d|⟨g,b,a,c,i,f,rest⟩
 ·exact .inl d
 ·exact .inr ⟨g,b,a,c,i,(World.putObj_heap_other (by omega)).trans f,rest⟩
theorem pd (w:World)(D:Nat)(o:Obj):(w.putObj D o).heap.size=w.heap.size:=by
 simp[World.putObj]
theorem pf {B:World}(h:Rd A v l)(n:bg X A B)(m:∀ b o c,v=.slice (some ⟨b,o,none⟩) l.length c->¬X b):Rd B v l:=by
 obtain⟨a,c,rfl,s,r,q,k⟩:=h;refine⟨a,c,rfl,s,r,q,λx e i p=>?_⟩;have j:=k x e i p;subst e;obtain⟨b,o,d⟩:=x;have g:=MJ (k _ rfl 0 (by omega));have f:d=none:=by simpa [Addr.add] using g
 subst f;exact(Mc (w:=A) (n.block _ (Kl A _ j) (by
  have:((⟨b,o,none⟩:Addr).add i).block=b:=by unfold Addr.add;split <;> rfl
  rw[this];exact m b o c rfl))).trans j
theorem mZ {a:Option Addr}{n c:Nat}(h:Rd w (.slice a n c) l)(i:Nat)(g:64*i+64<=n):Rd w (dn a i) ((l.drop (64*i)).take 64):=by
 obtain⟨b,o,rfl,_,_⟩:=h.at 0 (by omega);obtain⟨p,f,j⟩:=h.len;have k:=h.cutAt (64*i) 64 g (by omega);obtain⟨u,t,e,s,r,q,m⟩:=k;have d:((l.drop (64*i)).take 64).length=64:=by simp;omega
 simp only[JR] at e;obtain⟨rfl,_,rfl⟩:=e;exact⟨some ⟨b,o+64*i,none⟩,64,by rw[d];rfl,by rw[d];exact JO _,by unfold maxLen;omega,λh=>(by cases h),m⟩
theorem uY (v:Value)(l:List UInt8)(w:World)(h:Rd w v l)(hl:l.length<=2000):
  Calls prog 211 #[v] w λe w'=>(∃ v',e=.returned v'/\Ow 5 w' w.heap.size v' (bJ l))/\Kp w w':=by
 have U:=aj;obtain⟨a,c,rfl,h1,h2⟩:=h.shape;unfold maxLen at h2;obtain⟨N,hN⟩:∃ N,l.length / 64=N:=⟨_,rfl⟩;have bu:(l.length:Int) - (l.length:Int) % 64=64*(N:Int):=by omega
 have bC:(l.length:Int) - (l.length:Int).tmod 64=64*(N:Int):=by rw[Kv (by omega)];exact bu
 have aS:64*N<=l.length:=by omega
 have HN:=JE hN;clear hN;refine(callsIn_wide (n:=6)).1 ?_;refine callsIn_of_wp_marks func211 rfl trivial ?_ rfl;refine wpIn_wide.2 ?_;simp only[ntmps211,Lj,Lk,Ka,Kf,Nat.reduceAdd,Nat.reduceSub,Lg,Lh,Lq,La,Ll];go_wp2_with fail;refine(Bp _).mono ?_;rintro e w1 ⟨rfl,bp⟩;go_wp2_with(refine iL (by kernel_rfl) rfl rfl (.tmp 3) (.tmp 8) rfl w1.heap.size (bf 64) dd rfl rfl (Of _ _ _ _ rfl) (iN 64) rfl ?_;intro w2 br a2)
 have aZ:Kp w w2:=a2.below (bp.alloc _) bp.size;clear a2;refine(Bs _).mono ?_;rintro e S ⟨rfl,a6⟩;have aU:=br.kp a6;have aL:Kp w S:=aZ.trans a6;clear br aZ a6;go_wp2_with(refine iL (by kernel_rfl) rfl rfl (.tmp 4) (.tmp 9) rfl S.heap.size (bf 8) dK.list rfl rfl (Of _ _ _ _ rfl) rfl rfl ?_;intro w4 be aF)
 have bk:=aF.arr (aU.alloc _) (by have:=aU.lt;omega);have aY:Kp w w4:=aF.below (aL.alloc _) aL.size;have bD:=bk.lt;have bz:=be.lt;have aQ:S.heap.size≠w1.heap.size:=by have:=aU.lt;omega
 have az:=aL.size;clear aF aU aL;refine(rD a (64*N) c w4).mono ?_;rintro e w5 ⟨rfl,aO⟩;have aT:Kp w4 w5:=by rw[<-aO];exact((NQ _).alloc _).alloc _
 have bF:w5.heap.size=w4.heap.size+2:=by rw[<-aO];simp
 have O:w5.cell? ⟨w4.heap.size,0,none⟩=some (.slice a (64*N) c):=by
  rw[<-aO,cell_of_row _ _ 0 _ _ _ ((Below.heap_alloc _ _ _ (by simp)).trans (heap_alloc_new w4 _))];rfl
 have L:w5.cell? ⟨w4.heap.size+1,0,none⟩=some (.int .i64 64):=by
  have:=heap_alloc_new (w4.alloc (.cells #[.slice a (64*N) c] 24)) (.cells #[.int .i64 64] 3);rw[JY,aO] at this;rw[cell_of_row _ _ 0 _ _ _ this];rfl
 have bj:=bk.kp aT;have bd:=be.kp aT;have ay:Kp w w5:=aY.trans aT;clear aO bk be aY aT;go_wp2_with fail;refine wpIn_wide.1 (kZ (F:=Fence.wide) (n:=6) rfl (by omega) (gf:=266) (lb:=#[.pointer (some ⟨w4.heap.size,0,none⟩),.pointer (some ⟨w4.heap.size+1,0,none⟩)]) rfl trivial (enters_of func266 (by kernel_rfl) rfl) (encs:=λi=>#[dn a i]) (N:=N) (X:=λk=>k=S.heap.size) (by omega)
  (mW (6 - 1) (by omega) _ w5 a N c _ _ O L (λe=>by omega) (λe=>by omega) (by omega) (by unfold maxLen;omega) (λh0=>by obtain⟨b,o,e,_⟩:=h.at 0 (by omega);exact⟨b,o,e⟩)) (λ_=>rfl)
  (λi A=>Arr 252 A S.heap.size (bI dK l i).list/\Arr 264 A w1.heap.size dd/\Kp w A)
  (λi A B h hb=>⟨h.1.below hb (by omega),h.2.1.below hb (by omega),Below.trans h.2.2 (hb.mono (by have:=ay.size;omega))⟩)
  ⟨bd,bj,ay⟩ ?a1 ?assign ?body ?done)
 case assign=>
  intro l' i W K hK;gi_wp2
  exact hK
 case body=>
  clear bd bj O L;rintro l' i W ⟨hR,hA,hK⟩ hi;have aX:Rd w (.slice a (64*N) c) (l.take (64*N)):=by
   by_cases h0:c=0
   ·have bA:l=[]:=Kg (by omega)
    subst bA;have bB:64*N=0:=by simp at aS;omega
    rw[bB];simpa using h
   ·have:=h.cut 0 (64*N) (by omega) aS _ (64*N) c rfl rfl rfl
    rw[if_neg h0] at this;have e:a.map (λx=>x.add 0)=a:=by cases a <;> simp[Addr.add]
    simpa [e] using this
  have bm:=mZ aX i (by omega);have bq:((l.take (64*N)).drop (64*i)).take 64=(l.drop (64*i)).take 64:=by
   rw[List.drop_take,List.take_take,MS (by omega)]
  rw[bq] at bm;have E:=iQ dK l i;have an:((l.drop (64*i)).take 64).length=64:=by simp;omega
  obtain⟨s,hs⟩:∃ s,bI dK l i=s:=⟨_,rfl⟩;obtain⟨r,Y⟩:∃ r,bI dK l (i+1)=r:=⟨_,rfl⟩;rw[Y] at E ⊢;rw[hs] at E hR;have HS:=JE (mS s (dn a i) ((l.drop (64*i)).take 64) w1.heap.size dd);rw[<-E] at HS;have HB:=JE an;obtain⟨c0,c1,c2,c3,c4,c5,c6,c7⟩:=hR.cells8;generalize dn a i=cv at *;clear hs Y E an bq aX;gi_wp2_with (refine⟨trivial,?_⟩;gi_at_call 248;refine(CallsIn.inRound l' (callsIn_wide.2 (HS.out _ (bm.kp hK) HB.out hA rfl))).mono ?_;rintro e R ⟨rfl,Z⟩;rw[mU];have bc:=hR.kp Z;obtain⟨e0,e1,e2,e3,e4,e5,e6,e7⟩:=bc.cells8;obtain⟨f0,f1,f2,f3,f4,f5,f6,f7⟩:=bc.frozen8)
  exact⟨mX (X:=λk=>k=S.heap.size) (bg.of_kp Z) rfl _ _ _ _ _ _ _ _,bc.set8 r,mY (hA.kp Z) (NK aQ) _ _ _ _ _ _ _ _,mT (hK.trans Z) az _ _ _ _ _ _ _ _⟩
 case done=>
  clear bd bj O L;rintro D W hD ⟨hR,hA,hK⟩ hd;obtain⟨s,hs⟩:∃ s,bI dK l N=s:=⟨_,rfl⟩;rw[hs] at hR;have bn:=uQ l.length hl;have bt:=JE bn;have aW:=JE hs;clear hs bn;obtain⟨bV,aP⟩:∃ t,l.drop (64*N)=t:=⟨_,rfl⟩;have bE:bV.length=l.length - 64*N:=by rw[<-aP];simp
  have HT:=JE aP;have aA:∃ a',Rd w (.slice a' (l.length - 64*N) (c - 64*N)) bV/\a'=(if c=64*N then a else a.map (·.add (64*N))):=by
   refine⟨_,?_,rfl⟩;have:=h.cut (64*N) l.length aS (JO _) _ (l.length - 64*N) (c - 64*N) rfl rfl rfl;rw[aP,Ku (by omega)] at this;exact this
  obtain⟨a',aA,aR⟩:=aA;have aM:=BM l N HN.out.symm;have am:=BK l N ((l.drop (64*N)++pad l.length).length / 64) HN.out.symm aM;rw[aP] at aM am;obtain⟨T,ba⟩:∃ T,bV++pad l.length=T:=⟨_,rfl⟩;rw[ba] at aM am;obtain⟨M,hM⟩:∃ M,T.length / 64=M:=⟨_,rfl⟩;rw[hM] at aM am;have aN:=JE aM.symm;have bs:=JE ba;have aV:=JE am;clear aP aM am ba hM;by_cases a0:c=64*N
  ·subst a0
   rw[if_pos rfl] at aR;subst aR;rw[show l.length - 64*N=0 by omega,Mq] at aA;have hM:=lC l.length;have a7:=lB l.length;have bv:(pad l.length).length<=100:=by omega
   have bo:0<(pad l.length).length:=by omega
   clear hM a7;go_wp2_with fail;refine wp_region_noPanic ?_;go_region_with (first
    | (go_at_call 249;refine(uD _ _).mono ?_;rintro e w6 ⟨⟨vp,rfl,aq⟩,ah⟩;rw[bt.out] at aq;obtain⟨ap,cp,rfl,bx,bw⟩:=aq.shape)
    | (go_at_call 168;refine(uV w6.heap.size 2 _ _ bV (pad l.length) _ (uW _ _ _ _) (uX _ _ _ _) ((aA.kp ((hK.drew.trans ah).alloc _))) (aq.kp ((NQ _).alloc _)) (by omega) (by omega)).mono ?_;rintro e R ⟨⟨vc,rfl,H⟩,Z⟩;rw[bs.out] at H;obtain⟨ac,cc,rfl,av,aB⟩:=H.rd.shape;rw[aN.out] at H av ⊢)
    | (go_at_call 247;refine(rD _ _ _ _).mono ?_;rintro e V ⟨rfl,C⟩))
   ·refine NoPanic.normal ?_
    have y:Kp R V:=by rw[<-C];exact((NQ _).alloc _).alloc _
    have a5:V.heap.size=R.heap.size+2:=by rw[<-C];simp
    have O:V.cell? ⟨R.heap.size,0,none⟩=some (.slice ac (64*M) cc):=by
     rw[<-C,cell_of_row _ _ 0 _ _ _ ((Below.heap_alloc _ _ _ (by simp)).trans (heap_alloc_new R _))];rfl
    have L:V.cell? ⟨R.heap.size+1,0,none⟩=some (.int .i64 64):=by
     have:=heap_alloc_new (R.alloc (.cells #[.slice ac (64*M) cc] 24)) (.cells #[.int .i64 64] 3);rw[JY,C] at this;rw[cell_of_row _ _ 0 _ _ _ this];rfl
    have u:Kp W V:=((((NQ W).drew.trans ah).alloc _).trans Z).trans y;have ag:Rd V (.slice ac (64*M) cc) T:=H.rd.kp y;have P:=hR.kp u;have Q:=hA.kp u;have ax:Kp w V:=hK.trans u;have ai:=(u.block D (JK.1 hd).1).trans hd;have bh:D<W.heap.size:=(JK.1 hd).1;have a9:=u.size;have aH:=P.lt;have aI:=Q.lt;have bb:=hR.lt;have ao:=ah.size;have aC:=Z.size;have bl:W.heap.size<=R.heap.size:=by simp at ao aC;omega
    have m:∀ b o,ac=some ⟨b,o,none⟩->S.heap.size<b:=λb o e=>by
     have:=H.own_ge b (by rw[e];rfl);simp at this ao;omega
    have aJ:=JE m;clear H C ah Z aq y m;go_wp2_with fail;refine wpIn_wide.1 (kZ (F:=Fence.wide) (n:=6) rfl (by omega) (gf:=266) (lb:=#[.pointer (some ⟨R.heap.size,0,none⟩),.pointer (some ⟨R.heap.size+1,0,none⟩)]) rfl trivial (enters_of func266 (by kernel_rfl) rfl) (encs:=λi=>#[dn ac i]) (N:=M) (X:=λk=>k=S.heap.size) (by omega)
     (mW (6 - 1) (by omega) _ V ac M cc _ _ O L (λe=>by omega) (λe=>by omega) av aB (λh0=>by obtain⟨b,o,e,_⟩:=ag.at 0 (by omega);exact⟨b,o,e⟩)) (λ_=>rfl)
     (λi A=>Arr 252 A S.heap.size (bI s T i).list/\Arr 264 A w1.heap.size dd/\Kp w A/\A.heap[D]?=some (.deferred (some []))/\bg (λk=>k=S.heap.size) V A)
     (λi A B h hb=>⟨h.1.below hb (by omega),h.2.1.below hb (by omega),Below.trans h.2.2.1 (hb.mono (by have:=ax.size;omega)),(hb.block D (by omega)).trans h.2.2.2.1,Kd h.2.2.2.2.size hb.size,λk hk hn=>(hb.block k hk).trans (h.2.2.2.2.block k hk hn)⟩)
     ⟨P,Q,ax,ai,bg.refl _ _⟩ ?a11 ?assign1 ?body1 ?done21)
    case assign1=>
     intro l' i W K hK;gi_wp2
     exact hK
    case body1=>
     clear P Q O L ai;rintro l' i W9 ⟨q,al,z,J,G⟩ hi;obtain⟨sv,p⟩:∃ x,bI s T i=x:=⟨_,rfl⟩;obtain⟨r,Y⟩:∃ r,bI s T (i+1)=r:=⟨_,rfl⟩;have E:=iQ s T i;have aG:=aN.out;have an:((T.drop (64*i)).take 64).length=64:=by rw[Ki,LG];omega
     obtain⟨b1,o1,aw,_⟩:=ag.at 0 (by omega);have a8:=aJ.out b1 o1 aw;have ar:Rd W9 (dn ac i) ((T.drop (64*i)).take 64):=pf (mZ ag i (by omega)) G (λb o' c' e=>by rw[aw] at e;simp[dn] at e;omega);rw[Y,p] at E;rw[Y];rw[p] at q;have HS:=JE (mS sv (dn ac i) ((T.drop (64*i)).take 64) w1.heap.size dd);rw[<-E] at HS;have HB:=JE an;obtain⟨c0,c1,c2,c3,c4,c5,c6,c7⟩:=q.cells8;generalize dn ac i=cv at *;clear Y p E an aG;gi_wp2_with (refine⟨trivial,?_⟩;gi_at_call 248;refine(CallsIn.inRound l' (callsIn_wide.2 (HS.out _ ar HB.out al rfl))).mono ?_;rintro e wz ⟨rfl,j⟩;rw[mU];have ak:=q.kp j;obtain⟨e0,e1,e2,e3,e4,e5,e6,e7⟩:=ak.cells8;obtain⟨f0,f1,f2,f3,f4,f5,f6,f7⟩:=ak.frozen8)
     have af:bg (λk=>k=S.heap.size) W9 _:=mX (X:=λk=>k=S.heap.size) (bg.of_kp j) (g:=S.heap.size) rfl (.int .u32 (aa r.a)) (.int .u32 (aa r.b)) (.int .u32 (aa r.c)) (.int .u32 (aa r.d)) (.int .u32 (aa r.e)) (.int .u32 (aa r.f)) (.int .u32 (aa r.g)) (.int .u32 (aa r.h));exact⟨af,ak.set8 r,mY (al.kp j) (NK aQ) _ _ _ _ _ _ _ _,mT (z.trans j) az _ _ _ _ _ _ _ _,(af.block D (by have:=G.size;omega) (by omega)).trans J,G.trans af⟩
    case done21=>
     clear P Q O L ai;rintro D2 W9 bi ⟨q,al,z,J,G⟩ ab;have I:=aV.out;rw[aW.out] at I;obtain⟨sv,p⟩:∃ x,bI s T M=x:=⟨_,rfl⟩;rw[p] at q I;have aK:=JE I;have ae:D2<W9.heap.size:=(JK.1 ab).1;have ad:D<W9.heap.size:=(JK.1 J).1;clear p I;go_wp2_with(first
      | (refine jj underlying252 (by kernel_rfl) rfl (.tmp 4) rfl S.heap.size sv.list rfl q rfl ?_)
      | (go_at_call 250;refine(pa sv _).mono ?_;rintro e wz ⟨⟨vz,rfl,aD⟩,j⟩))
     have au:=(j.block D2 ae).trans ab;have aE:=(j.block D ad).trans J;refine⟨by simp,.inl ⟨_,_,rfl,run_takeDeferred au,?_⟩⟩;refine⟨by simp,.inl ⟨_,_,rfl,run_takeDeferred ((World.putObj_heap_other (by omega)).trans aE),?_⟩⟩;refine⟨_,results_tmp rfl _ _ _,⟨_,rfl,?_⟩,?_⟩
     ·rw[aK.out]
      exact(jO (jO aD ae _) ad _).mono z.size
     ·have a4:=z.size
      have a3:=j.size;exact je (je (z.trans j) (by omega) (by omega) _) (by have:=ay.size;omega) (by rw[pd];omega) _
   ·refine NoPanic.normal ?_
    have y:Kp R V:=by rw[<-C];exact((NQ _).alloc _).alloc _
    have a5:V.heap.size=R.heap.size+2:=by rw[<-C];simp
    have O:V.cell? ⟨R.heap.size,0,none⟩=some (.slice ac (64*M) cc):=by
     rw[<-C,cell_of_row _ _ 0 _ _ _ ((Below.heap_alloc _ _ _ (by simp)).trans (heap_alloc_new R _))];rfl
    have L:V.cell? ⟨R.heap.size+1,0,none⟩=some (.int .i64 64):=by
     have:=heap_alloc_new (R.alloc (.cells #[.slice ac (64*M) cc] 24)) (.cells #[.int .i64 64] 3);rw[JY,C] at this;rw[cell_of_row _ _ 0 _ _ _ this];rfl
    have u:Kp W V:=((((NQ W).drew.trans ah).alloc _).trans Z).trans y;have ag:Rd V (.slice ac (64*M) cc) T:=H.rd.kp y;have P:=hR.kp u;have Q:=hA.kp u;have ax:Kp w V:=hK.trans u;have ai:=(u.block D (JK.1 hd).1).trans hd;have bh:D<W.heap.size:=(JK.1 hd).1;have a9:=u.size;have aH:=P.lt;have aI:=Q.lt;have bb:=hR.lt;have ao:=ah.size;have aC:=Z.size;have bl:W.heap.size<=R.heap.size:=by simp at ao aC;omega
    have m:∀ b o,ac=some ⟨b,o,none⟩->S.heap.size<b:=λb o e=>by
     have:=H.own_ge b (by rw[e];rfl);simp at this ao;omega
    have aJ:=JE m;clear H C ah Z aq y m;go_wp2_with fail;refine wpIn_wide.1 (kZ (F:=Fence.wide) (n:=6) rfl (by omega) (gf:=266) (lb:=#[.pointer (some ⟨R.heap.size,0,none⟩),.pointer (some ⟨R.heap.size+1,0,none⟩)]) rfl trivial (enters_of func266 (by kernel_rfl) rfl) (encs:=λi=>#[dn ac i]) (N:=M) (X:=λk=>k=S.heap.size) (by omega)
     (mW (6 - 1) (by omega) _ V ac M cc _ _ O L (λe=>by omega) (λe=>by omega) av aB (λh0=>by obtain⟨b,o,e,_⟩:=ag.at 0 (by omega);exact⟨b,o,e⟩)) (λ_=>rfl)
     (λi A=>Arr 252 A S.heap.size (bI s T i).list/\Arr 264 A w1.heap.size dd/\Kp w A/\A.heap[D]?=some (.deferred (some []))/\bg (λk=>k=S.heap.size) V A)
     (λi A B h hb=>⟨h.1.below hb (by omega),h.2.1.below hb (by omega),Below.trans h.2.2.1 (hb.mono (by have:=ax.size;omega)),(hb.block D (by omega)).trans h.2.2.2.1,Kd h.2.2.2.2.size hb.size,λk hk hn=>(hb.block k hk).trans (h.2.2.2.2.block k hk hn)⟩)
     ⟨P,Q,ax,ai,bg.refl _ _⟩ ?a12 ?assign2 ?body2 ?done22)
    case assign2=>
     intro l' i W K hK;gi_wp2
     exact hK
    case body2=>
     clear P Q O L ai;rintro l' i W9 ⟨q,al,z,J,G⟩ hi;obtain⟨sv,p⟩:∃ x,bI s T i=x:=⟨_,rfl⟩;obtain⟨r,Y⟩:∃ r,bI s T (i+1)=r:=⟨_,rfl⟩;have E:=iQ s T i;have aG:=aN.out;have an:((T.drop (64*i)).take 64).length=64:=by rw[Ki,LG];omega
     obtain⟨b1,o1,aw,_⟩:=ag.at 0 (by omega);have a8:=aJ.out b1 o1 aw;have ar:Rd W9 (dn ac i) ((T.drop (64*i)).take 64):=pf (mZ ag i (by omega)) G (λb o' c' e=>by rw[aw] at e;simp[dn] at e;omega);rw[Y,p] at E;rw[Y];rw[p] at q;have HS:=JE (mS sv (dn ac i) ((T.drop (64*i)).take 64) w1.heap.size dd);rw[<-E] at HS;have HB:=JE an;obtain⟨c0,c1,c2,c3,c4,c5,c6,c7⟩:=q.cells8;generalize dn ac i=cv at *;clear Y p E an aG;gi_wp2_with (refine⟨trivial,?_⟩;gi_at_call 248;refine(CallsIn.inRound l' (callsIn_wide.2 (HS.out _ ar HB.out al rfl))).mono ?_;rintro e wz ⟨rfl,j⟩;rw[mU];have ak:=q.kp j;obtain⟨e0,e1,e2,e3,e4,e5,e6,e7⟩:=ak.cells8;obtain⟨f0,f1,f2,f3,f4,f5,f6,f7⟩:=ak.frozen8)
     have af:bg (λk=>k=S.heap.size) W9 _:=mX (X:=λk=>k=S.heap.size) (bg.of_kp j) (g:=S.heap.size) rfl (.int .u32 (aa r.a)) (.int .u32 (aa r.b)) (.int .u32 (aa r.c)) (.int .u32 (aa r.d)) (.int .u32 (aa r.e)) (.int .u32 (aa r.f)) (.int .u32 (aa r.g)) (.int .u32 (aa r.h));exact⟨af,ak.set8 r,mY (al.kp j) (NK aQ) _ _ _ _ _ _ _ _,mT (z.trans j) az _ _ _ _ _ _ _ _,(af.block D (by have:=G.size;omega) (by omega)).trans J,G.trans af⟩
    case done22=>
     clear P Q O L ai;rintro D2 W9 bi ⟨q,al,z,J,G⟩ ab;have I:=aV.out;rw[aW.out] at I;obtain⟨sv,p⟩:∃ x,bI s T M=x:=⟨_,rfl⟩;rw[p] at q I;have aK:=JE I;have ae:D2<W9.heap.size:=(JK.1 ab).1;have ad:D<W9.heap.size:=(JK.1 J).1;clear p I;go_wp2_with(first
      | (refine jj underlying252 (by kernel_rfl) rfl (.tmp 4) rfl S.heap.size sv.list rfl q rfl ?_)
      | (go_at_call 250;refine(pa sv _).mono ?_;rintro e wz ⟨⟨vz,rfl,aD⟩,j⟩))
     have au:=(j.block D2 ae).trans ab;have aE:=(j.block D ad).trans J;refine⟨by simp,.inl ⟨_,_,rfl,run_takeDeferred au,?_⟩⟩;refine⟨by simp,.inl ⟨_,_,rfl,run_takeDeferred ((World.putObj_heap_other (by omega)).trans aE),?_⟩⟩;refine⟨_,results_tmp rfl _ _ _,⟨_,rfl,?_⟩,?_⟩
     ·rw[aK.out]
      exact(jO (jO aD ae _) ad _).mono z.size
     ·have a4:=z.size
      have a3:=j.size;exact je (je (z.trans j) (by omega) (by omega) _) (by have:=ay.size;omega) (by rw[pd];omega) _
  ·rw[if_neg a0] at aR
   cases a with
   | none=>
    obtain⟨_,_,e,_,_,h3,_⟩:=h;cases e;have:=h3 rfl;omega
   | some x=>
   simp only[Option.map_some] at aR;subst aR;have hM:=lC l.length;have a7:=lB l.length;have bv:(pad l.length).length<=100:=by omega
   have bo:0<(pad l.length).length:=by omega
   clear hM a7;go_wp2_with fail;refine wp_region_noPanic ?_;go_region_with (first
    | (go_at_call 249;refine(uD _ _).mono ?_;rintro e w6 ⟨⟨vp,rfl,aq⟩,ah⟩;rw[bt.out] at aq;obtain⟨ap,cp,rfl,bx,bw⟩:=aq.shape)
    | (go_at_call 168;refine(uV w6.heap.size 2 _ _ bV (pad l.length) _ (uW _ _ _ _) (uX _ _ _ _) ((aA.kp ((hK.drew.trans ah).alloc _))) (aq.kp ((NQ _).alloc _)) (by omega) (by omega)).mono ?_;rintro e R ⟨⟨vc,rfl,H⟩,Z⟩;rw[bs.out] at H;obtain⟨ac,cc,rfl,av,aB⟩:=H.rd.shape;rw[aN.out] at H av ⊢)
    | (go_at_call 247;refine(rD _ _ _ _).mono ?_;rintro e V ⟨rfl,C⟩))
   ·refine NoPanic.normal ?_
    have y:Kp R V:=by rw[<-C];exact((NQ _).alloc _).alloc _
    have a5:V.heap.size=R.heap.size+2:=by rw[<-C];simp
    have O:V.cell? ⟨R.heap.size,0,none⟩=some (.slice ac (64*M) cc):=by
     rw[<-C,cell_of_row _ _ 0 _ _ _ ((Below.heap_alloc _ _ _ (by simp)).trans (heap_alloc_new R _))];rfl
    have L:V.cell? ⟨R.heap.size+1,0,none⟩=some (.int .i64 64):=by
     have:=heap_alloc_new (R.alloc (.cells #[.slice ac (64*M) cc] 24)) (.cells #[.int .i64 64] 3);rw[JY,C] at this;rw[cell_of_row _ _ 0 _ _ _ this];rfl
    have u:Kp W V:=((((NQ W).drew.trans ah).alloc _).trans Z).trans y;have ag:Rd V (.slice ac (64*M) cc) T:=H.rd.kp y;have P:=hR.kp u;have Q:=hA.kp u;have ax:Kp w V:=hK.trans u;have ai:=(u.block D (JK.1 hd).1).trans hd;have bh:D<W.heap.size:=(JK.1 hd).1;have a9:=u.size;have aH:=P.lt;have aI:=Q.lt;have bb:=hR.lt;have ao:=ah.size;have aC:=Z.size;have bl:W.heap.size<=R.heap.size:=by simp at ao aC;omega
    have m:∀ b o,ac=some ⟨b,o,none⟩->S.heap.size<b:=λb o e=>by
     have:=H.own_ge b (by rw[e];rfl);simp at this ao;omega
    have aJ:=JE m;clear H C ah Z aq y m;go_wp2_with fail;refine wpIn_wide.1 (kZ (F:=Fence.wide) (n:=6) rfl (by omega) (gf:=266) (lb:=#[.pointer (some ⟨R.heap.size,0,none⟩),.pointer (some ⟨R.heap.size+1,0,none⟩)]) rfl trivial (enters_of func266 (by kernel_rfl) rfl) (encs:=λi=>#[dn ac i]) (N:=M) (X:=λk=>k=S.heap.size) (by omega)
     (mW (6 - 1) (by omega) _ V ac M cc _ _ O L (λe=>by omega) (λe=>by omega) av aB (λh0=>by obtain⟨b,o,e,_⟩:=ag.at 0 (by omega);exact⟨b,o,e⟩)) (λ_=>rfl)
     (λi A=>Arr 252 A S.heap.size (bI s T i).list/\Arr 264 A w1.heap.size dd/\Kp w A/\A.heap[D]?=some (.deferred (some []))/\bg (λk=>k=S.heap.size) V A)
     (λi A B h hb=>⟨h.1.below hb (by omega),h.2.1.below hb (by omega),Below.trans h.2.2.1 (hb.mono (by have:=ax.size;omega)),(hb.block D (by omega)).trans h.2.2.2.1,Kd h.2.2.2.2.size hb.size,λk hk hn=>(hb.block k hk).trans (h.2.2.2.2.block k hk hn)⟩)
     ⟨P,Q,ax,ai,bg.refl _ _⟩ ?a13 ?assign3 ?body3 ?done23)
    case assign3=>
     intro l' i W K hK;gi_wp2
     exact hK
    case body3=>
     clear P Q O L ai;rintro l' i W9 ⟨q,al,z,J,G⟩ hi;obtain⟨sv,p⟩:∃ x,bI s T i=x:=⟨_,rfl⟩;obtain⟨r,Y⟩:∃ r,bI s T (i+1)=r:=⟨_,rfl⟩;have E:=iQ s T i;have aG:=aN.out;have an:((T.drop (64*i)).take 64).length=64:=by rw[Ki,LG];omega
     obtain⟨b1,o1,aw,_⟩:=ag.at 0 (by omega);have a8:=aJ.out b1 o1 aw;have ar:Rd W9 (dn ac i) ((T.drop (64*i)).take 64):=pf (mZ ag i (by omega)) G (λb o' c' e=>by rw[aw] at e;simp[dn] at e;omega);rw[Y,p] at E;rw[Y];rw[p] at q;have HS:=JE (mS sv (dn ac i) ((T.drop (64*i)).take 64) w1.heap.size dd);rw[<-E] at HS;have HB:=JE an;obtain⟨c0,c1,c2,c3,c4,c5,c6,c7⟩:=q.cells8;generalize dn ac i=cv at *;clear Y p E an aG;gi_wp2_with (refine⟨trivial,?_⟩;gi_at_call 248;refine(CallsIn.inRound l' (callsIn_wide.2 (HS.out _ ar HB.out al rfl))).mono ?_;rintro e wz ⟨rfl,j⟩;rw[mU];have ak:=q.kp j;obtain⟨e0,e1,e2,e3,e4,e5,e6,e7⟩:=ak.cells8;obtain⟨f0,f1,f2,f3,f4,f5,f6,f7⟩:=ak.frozen8)
     have af:bg (λk=>k=S.heap.size) W9 _:=mX (X:=λk=>k=S.heap.size) (bg.of_kp j) (g:=S.heap.size) rfl (.int .u32 (aa r.a)) (.int .u32 (aa r.b)) (.int .u32 (aa r.c)) (.int .u32 (aa r.d)) (.int .u32 (aa r.e)) (.int .u32 (aa r.f)) (.int .u32 (aa r.g)) (.int .u32 (aa r.h));exact⟨af,ak.set8 r,mY (al.kp j) (NK aQ) _ _ _ _ _ _ _ _,mT (z.trans j) az _ _ _ _ _ _ _ _,(af.block D (by have:=G.size;omega) (by omega)).trans J,G.trans af⟩
    case done23=>
     clear P Q O L ai;rintro D2 W9 bi ⟨q,al,z,J,G⟩ ab;have I:=aV.out;rw[aW.out] at I;obtain⟨sv,p⟩:∃ x,bI s T M=x:=⟨_,rfl⟩;rw[p] at q I;have aK:=JE I;have ae:D2<W9.heap.size:=(JK.1 ab).1;have ad:D<W9.heap.size:=(JK.1 J).1;clear p I;go_wp2_with(first
      | (refine jj underlying252 (by kernel_rfl) rfl (.tmp 4) rfl S.heap.size sv.list rfl q rfl ?_)
      | (go_at_call 250;refine(pa sv _).mono ?_;rintro e wz ⟨⟨vz,rfl,aD⟩,j⟩))
     have au:=(j.block D2 ae).trans ab;have aE:=(j.block D ad).trans J;refine⟨by simp,.inl ⟨_,_,rfl,run_takeDeferred au,?_⟩⟩;refine⟨by simp,.inl ⟨_,_,rfl,run_takeDeferred ((World.putObj_heap_other (by omega)).trans aE),?_⟩⟩;refine⟨_,results_tmp rfl _ _ _,⟨_,rfl,?_⟩,?_⟩
     ·rw[aK.out]
      exact(jO (jO aD ae _) ad _).mono z.size
     ·have a4:=z.size
      have a3:=j.size;exact je (je (z.trans j) (by omega) (by omega) _) (by have:=ay.size;omega) (by rw[pd];omega) _
   ·refine NoPanic.normal ?_
    have y:Kp R V:=by rw[<-C];exact((NQ _).alloc _).alloc _
    have a5:V.heap.size=R.heap.size+2:=by rw[<-C];simp
    have O:V.cell? ⟨R.heap.size,0,none⟩=some (.slice ac (64*M) cc):=by
     rw[<-C,cell_of_row _ _ 0 _ _ _ ((Below.heap_alloc _ _ _ (by simp)).trans (heap_alloc_new R _))];rfl
    have L:V.cell? ⟨R.heap.size+1,0,none⟩=some (.int .i64 64):=by
     have:=heap_alloc_new (R.alloc (.cells #[.slice ac (64*M) cc] 24)) (.cells #[.int .i64 64] 3);rw[JY,C] at this;rw[cell_of_row _ _ 0 _ _ _ this];rfl
    have u:Kp W V:=((((NQ W).drew.trans ah).alloc _).trans Z).trans y;have ag:Rd V (.slice ac (64*M) cc) T:=H.rd.kp y;have P:=hR.kp u;have Q:=hA.kp u;have ax:Kp w V:=hK.trans u;have ai:=(u.block D (JK.1 hd).1).trans hd;have bh:D<W.heap.size:=(JK.1 hd).1;have a9:=u.size;have aH:=P.lt;have aI:=Q.lt;have bb:=hR.lt;have ao:=ah.size;have aC:=Z.size;have bl:W.heap.size<=R.heap.size:=by simp at ao aC;omega
    have m:∀ b o,ac=some ⟨b,o,none⟩->S.heap.size<b:=λb o e=>by
     have:=H.own_ge b (by rw[e];rfl);simp at this ao;omega
    have aJ:=JE m;clear H C ah Z aq y m;go_wp2_with fail;refine wpIn_wide.1 (kZ (F:=Fence.wide) (n:=6) rfl (by omega) (gf:=266) (lb:=#[.pointer (some ⟨R.heap.size,0,none⟩),.pointer (some ⟨R.heap.size+1,0,none⟩)]) rfl trivial (enters_of func266 (by kernel_rfl) rfl) (encs:=λi=>#[dn ac i]) (N:=M) (X:=λk=>k=S.heap.size) (by omega)
     (mW (6 - 1) (by omega) _ V ac M cc _ _ O L (λe=>by omega) (λe=>by omega) av aB (λh0=>by obtain⟨b,o,e,_⟩:=ag.at 0 (by omega);exact⟨b,o,e⟩)) (λ_=>rfl)
     (λi A=>Arr 252 A S.heap.size (bI s T i).list/\Arr 264 A w1.heap.size dd/\Kp w A/\A.heap[D]?=some (.deferred (some []))/\bg (λk=>k=S.heap.size) V A)
     (λi A B h hb=>⟨h.1.below hb (by omega),h.2.1.below hb (by omega),Below.trans h.2.2.1 (hb.mono (by have:=ax.size;omega)),(hb.block D (by omega)).trans h.2.2.2.1,Kd h.2.2.2.2.size hb.size,λk hk hn=>(hb.block k hk).trans (h.2.2.2.2.block k hk hn)⟩)
     ⟨P,Q,ax,ai,bg.refl _ _⟩ ?a14 ?assign4 ?body4 ?done24)
    case assign4=>
     intro l' i W K hK;gi_wp2
     exact hK
    case body4=>
     clear P Q O L ai;rintro l' i W9 ⟨q,al,z,J,G⟩ hi;obtain⟨sv,p⟩:∃ x,bI s T i=x:=⟨_,rfl⟩;obtain⟨r,Y⟩:∃ r,bI s T (i+1)=r:=⟨_,rfl⟩;have E:=iQ s T i;have aG:=aN.out;have an:((T.drop (64*i)).take 64).length=64:=by rw[Ki,LG];omega
     obtain⟨b1,o1,aw,_⟩:=ag.at 0 (by omega);have a8:=aJ.out b1 o1 aw;have ar:Rd W9 (dn ac i) ((T.drop (64*i)).take 64):=pf (mZ ag i (by omega)) G (λb o' c' e=>by rw[aw] at e;simp[dn] at e;omega);rw[Y,p] at E;rw[Y];rw[p] at q;have HS:=JE (mS sv (dn ac i) ((T.drop (64*i)).take 64) w1.heap.size dd);rw[<-E] at HS;have HB:=JE an;obtain⟨c0,c1,c2,c3,c4,c5,c6,c7⟩:=q.cells8;generalize dn ac i=cv at *;clear Y p E an aG;gi_wp2_with (refine⟨trivial,?_⟩;gi_at_call 248;refine(CallsIn.inRound l' (callsIn_wide.2 (HS.out _ ar HB.out al rfl))).mono ?_;rintro e wz ⟨rfl,j⟩;rw[mU];have ak:=q.kp j;obtain⟨e0,e1,e2,e3,e4,e5,e6,e7⟩:=ak.cells8;obtain⟨f0,f1,f2,f3,f4,f5,f6,f7⟩:=ak.frozen8)
     have af:bg (λk=>k=S.heap.size) W9 _:=mX (X:=λk=>k=S.heap.size) (bg.of_kp j) (g:=S.heap.size) rfl (.int .u32 (aa r.a)) (.int .u32 (aa r.b)) (.int .u32 (aa r.c)) (.int .u32 (aa r.d)) (.int .u32 (aa r.e)) (.int .u32 (aa r.f)) (.int .u32 (aa r.g)) (.int .u32 (aa r.h));exact⟨af,ak.set8 r,mY (al.kp j) (NK aQ) _ _ _ _ _ _ _ _,mT (z.trans j) az _ _ _ _ _ _ _ _,(af.block D (by have:=G.size;omega) (by omega)).trans J,G.trans af⟩
    case done24=>
     clear P Q O L ai;rintro D2 W9 bi ⟨q,al,z,J,G⟩ ab;have I:=aV.out;rw[aW.out] at I;obtain⟨sv,p⟩:∃ x,bI s T M=x:=⟨_,rfl⟩;rw[p] at q I;have aK:=JE I;have ae:D2<W9.heap.size:=(JK.1 ab).1;have ad:D<W9.heap.size:=(JK.1 J).1;clear p I;go_wp2_with(first
      | (refine jj underlying252 (by kernel_rfl) rfl (.tmp 4) rfl S.heap.size sv.list rfl q rfl ?_)
      | (go_at_call 250;refine(pa sv _).mono ?_;rintro e wz ⟨⟨vz,rfl,aD⟩,j⟩))
     have au:=(j.block D2 ae).trans ab;have aE:=(j.block D ad).trans J;refine⟨by simp,.inl ⟨_,_,rfl,run_takeDeferred au,?_⟩⟩;refine⟨by simp,.inl ⟨_,_,rfl,run_takeDeferred ((World.putObj_heap_other (by omega)).trans aE),?_⟩⟩;refine⟨_,results_tmp rfl _ _ _,⟨_,rfl,?_⟩,?_⟩
     ·rw[aK.out]
      exact(jO (jO aD ae _) ad _).mono z.size
     ·have a4:=z.size
      have a3:=j.size;exact je (je (z.trans j) (by omega) (by omega) _) (by have:=ay.size;omega) (by rw[pd];omega) _
theorem BP (v:Value)(l:List UInt8)(w:World)(h:Rd w v l)(c:l.length<=2000):
  Calls prog 211 #[v] w λe w'=>(∃ a,e=.returned a/\Rd w' a (bJ l))/\Kp w w':=
 (uY v l w h c).mono λe w' ⟨⟨a,f,b⟩,d⟩=>⟨⟨a,f,b.rd⟩,d⟩
end
theorem cI (w:World):Rd w (.slice none 0 0) []:=⟨none,0,rfl,JO _,JW _,λ_=>rfl,λx a=>by cases a⟩
theorem jl (l:List UInt8):(bJ l).length=32:=uL _
theorem BQ (v:Value)(l:List UInt8)(w:World)(h:Rd w v l)(d:l.length<=2000):
  Calls prog 211 #[v] w λe w'=>(∃ a c,e=.returned (.slice a 32 c)/\Rd w' (.slice a 32 c) (bJ l))/\Kp w w':=by
 refine(BP v l w h d).mono ?_;rintro e w' ⟨⟨g,rfl,b⟩,f⟩;obtain⟨a,c,rfl,_,_⟩:=b.shape;rw[jl] at b ⊢;exact⟨⟨a,c,rfl,b⟩,f⟩
theorem uZ (v:Value)(l:List UInt8)(w:World)(h:Rd w v l)(d:l.length<=2000):
  Calls prog 211 #[v] w λe w'=>(∃ a c,e=.returned (.slice a 32 c)/\Ow 5 w' w.heap.size (.slice a 32 c) (bJ l))/\Kp w w':=by
 refine(uY v l w h d).mono ?_;rintro e w' ⟨⟨g,rfl,b⟩,f⟩;obtain⟨a,c,rfl,_,_⟩:=b.rd.shape;rw[jl] at b ⊢;exact⟨⟨a,c,rfl,b⟩,f⟩
theorem pg (U:U8 P t e){k:Array Oper}{rest:List Oper}(r:o.guard=none)(d s:Operand)
  (A:o.op=.call { callee:=.builtin .copy,args:=#[d,s],argTypes:=#[t,t] })
  (T:TypeId) (g:Nat) (v:Value) (l m:List UInt8) (c n:Nat) (B:a.eval d=.slice (some ⟨g,0,none⟩) n c) (z:a.eval s=v) (u:By T w g m) (F:m.length=n) (E:Rd w v l) (H:l.length<=n)
  (h:∀ w',By T w' g (l++m.drop l.length)->But g w w'->wpList P k Q rest (a.put o.dst (.int .i64 (l.length:Int))) w'):wpList P k Q (o :: rest) a w:=by
 obtain⟨i,I,N,f,J⟩:=U.hi;have p:(P.info? e).map (·.size)=some 1:=by rw[I];simp[f]
 obtain⟨x,S,rfl,R,O,L,K⟩:=E;subst F;by_cases C:l=[]
 ·subst C
  refine wpList_copy_nothing r d s t t A e U.ht p _ _ _ _ _ _ B z (by simp) ?_;exact h w (by simpa using u) ⟨λh _=>h,λh _=>h,rfl,λ_ _=>rfl⟩
 ·cases x with
  | none=>
   have:=L rfl;have:l.length=0:=by omega
   exact absurd (Kg this) C
  | some x=>
   refine wpList_copy_own r d s t t A e U.ht p g 0 _ _ x _ _ B z _ _ u (Lib.byteCells l) (by rw[cO];exact(MS H).symm) (λj aa y=>?_) (by simp[Lib.byteCells];omega) (λaa D=>?_) ?_
   ·have q:j<l.length:=by
     have:=(Ks.1 y).1;rwa [cO] at this
    rw[gC l j q] at y;cases y;exact K x rfl j q
   ·obtain⟨b,_,rfl⟩:=KN.1 D
    rfl
   ·have M:(goInt (Lib.byteCells l).length)=.int .i64 (l.length:Int):=by rw[cO];rfl
    rw[M];refine h _ ?_ (But.setRow g w _);have G:=(JK.1 u);unfold By;rw[setRow_heap w g _ _ T _ u];congr 2
    simp[Lib.byteCells,List.map_drop]
theorem pj (k:List UInt8):(bX k).length=64:=by
 unfold bX;split
 ·exact uO _ (by rw[jl];omega)
 ·exact uO _ (by omega)
theorem va (v:Value)(l:List UInt8)(w:World)(h:Rd w v l)(C:l.length<=2000):
  Calls prog 197 #[v] w λe w'=>(∃ g,e=.returned (.slice (some ⟨g,0,none⟩) 64 64)/\By 5 w' g (bX l)/\w.heap.size<=g)/\Kp w w':=by
 have U:=aj;obtain⟨a,c,rfl,F,D⟩:=h.shape;unfold maxLen at D;have u:Hid (∀ W:World,By 5 (W.alloc (.cells (Array.replicate 64 (.int .u8 0)) 5)) W.heap.size (List.replicate 64 0)):=λW=>By.fresh _ _ _
 have t:∀ k:List UInt8,k.length<=64->k++(List.replicate 64 (0:UInt8)).drop k.length=iP k:=λk E=>by unfold iP;rw[List.drop_replicate]
 have y:=JE t;clear t;by_cases o:64<l.length
 ·have p:bX l=iP (bJ l):=by unfold bX;rw[if_pos o]
  have s:=JE p;have x:=JE (jl l);have n:64<(l.length:Int):=by omega
  clear p;go_enter func197,ntmps197;go_wp2_with fail;refine(BQ _ l _ h C).mono ?_;rintro e q ⟨⟨H,G,rfl,B⟩,r⟩;go_wp2_with(first
   | (at_make;refine jk (z:=.int .u8 0) (b:=1) underlying24 Og rfl (by decide) rfl _ _ rfl 64 rfl rfl (by omega) ?_;intro w2 d;have m:By 5 w2 q.heap.size (List.replicate 64 0):=(by rw[d];exact u q);have f:Kp q w2:=(by rw[d];exact(NQ _).alloc _);clear d)
   | (refine pg U rfl (.tmp 10) (.tmp 11) rfl 5 q.heap.size _ (bJ l) (List.replicate 64 0) 64 64 rfl rfl m (by simp) (B.kp f) (by rw[x.out];omega) ?_;intro A i j))
  go_ret;rw[y.out _ (by rw[x.out];omega)] at i;refine⟨⟨_,rfl,by rw[s.out];exact i,r.size⟩,j.below (r.trans f) r.size⟩
 ·have p:bX l=iP l:=by unfold bX;rw[if_neg o]
  have s:=JE p;have n:¬64<(l.length:Int):=by omega
  clear p;go_enter func197,ntmps197;go_wp2_with(first
   | (at_make;refine jk (z:=.int .u8 0) (b:=1) underlying24 Og rfl (by decide) rfl _ _ rfl 64 rfl rfl (by omega) ?_;intro w2 d;have m:By 5 w2 w.heap.size (List.replicate 64 0):=(by rw[d];exact u w);have f:Kp w w2:=(by rw[d];exact(NQ _).alloc _);clear d)
   | (refine pg U rfl (.tmp 10) (.tmp 11) rfl 5 w.heap.size _ l (List.replicate 64 0) 64 64 rfl rfl m (by simp) (h.kp f) (by omega) ?_;intro A i j))
  go_ret;rw[y.out _ (by omega)] at i;refine⟨⟨_,rfl,by rw[s.out];exact i,JO _⟩,j.below f (JO _)⟩
def dw (B:Nat->List UInt8):Nat->List UInt8
 | 0=>[]
 | i+1=>dw B i++B i
theorem nz (B:Nat->List UInt8)(h:∀ i,(B i).length=32):∀ N,(dw B N).length=32*N
 | 0=>rfl
 | N+1=>by rw[dw,JQ,nz B h N,h N];omega
theorem BR (B:Nat->List UInt8)(i k:Nat):∃ r,dw B (i+k)=dw B i++r:=by
 induction k with
 | zero=>exact⟨[],by simp⟩
 | succ k ih=>obtain⟨r,a⟩:=ih;exact⟨r++B (i+k),by rw[<-Mn,dw,a,LQ]⟩
def jm (B:Nat->List UInt8)(n:Nat):List UInt8:=(dw B ((n+31) / 32)).take n
theorem rE (B:Nat->List UInt8)(h:∀ i,(B i).length=32)(n N:Nat)(c:n<=32*N):jm B n=(dw B N).take n:=by
 obtain⟨r,a⟩:=BR B ((n+31) / 32) (N - (n+31) / 32);have b:(n+31) / 32<=N:=by omega
 rw[show(n+31) / 32+(N - (n+31) / 32)=N by omega] at a;rw[a,LW (by rw[nz B h];omega)];rfl
theorem nA (B:Nat->List UInt8)(h:∀ i,(B i).length=32)(n:Nat):(jm B n).length=n:=by
 unfold jm;rw[Ki,nz B h];omega
theorem BS (B:Nat->List UInt8)(h:∀ i,(B i).length=32)(n i j:Nat)(c:j<32)(b:32*i+(j+1)=n):dw B i++(B i).take (j+1)=jm B n:=by
 have e:n - 32*i=j+1:=by omega
 have a:=nz B h i;rw[rE B h n (i+1) (by omega),dw,List.take_append,a,e,Ku (l:=dw B i) (by omega)]
theorem BT (B:Nat->List UInt8):jm B 0=[]:=rfl
theorem Jz (B:Nat->List UInt8)(h:∀ i,(B i).length=32):jm B 32=B 0:=by
 rw[rE B h 32 1 (by omega),dw,dw,La,Ku (by rw[h];omega)]
theorem nC (k b:List UInt8):(et k b).length=32:=jl _
theorem BU (k:List UInt8):bX (bX k)=bX k:=by
 have h:=pj k;obtain⟨K,a⟩:∃ K,bX k=K:=⟨_,rfl⟩;rw[a] at h ⊢;unfold bX iP;rw[if_neg (by omega),h];simp
theorem BV (k b:List UInt8):et (bX k) b=et k b:=by unfold et;rw[BU]
def dC (k info:List UInt8):Nat->List UInt8
 | 0=>et k (info++be 1 1)
 | i+1=>et k (dC k info i++info++be 1 (i+2))
theorem jn (k info:List UInt8):∀ i,(dC k info i).length=32
 | 0=>nC _ _
 | _+1=>nC _ _
def fq (k info:List UInt8):Nat->List UInt8
 | 0=>[]
 | i+1=>dC k info i
theorem vd (k info:List UInt8)(i:Nat):dC k info i=et k (fq k info i++info++be 1 (i+1)):=by
 cases i with
 | zero=>simp[dC,fq]
 | succ i=>rfl
theorem vf (k info:List UInt8):∀ i,(fq k info i).length<=32
 | 0=>by simp[fq]
 | i+1=>by rw[fq,jn];omega
def iR (k info:List UInt8)(n:Nat):List UInt8:=jm (dC k info) n
def dN (nonce:List UInt8)(q:Nat):List UInt8:=nonce++be 4 (q+1)
def fN (K nonce b:List UInt8)(j:Nat):UInt8:=b.getD j 0 ^^^ (eA K (dN nonce (j / 16))).getD (j % 16) 0
def bN (K nonce b:List UInt8):List UInt8:=tab b.length (fN K nonce b)
def jq (key nonce:List UInt8):Int:=if key.length=16/\nonce.length=12 then 0 else 1
def jr (key nonce b:List UInt8):List UInt8:=if key.length=16/\nonce.length=12 then bN (cU key) nonce b else []
theorem ky (K a b:List UInt8):(bN K a b).length=b.length:=ft _ _
theorem we (a:List UInt8)(q:Nat):(dN a q).length=a.length+4:=by simp[dN,bq]
theorem rU (K a b:List UInt8)(j:Nat)(h:j<b.length):(bN K a b).getD j 0=fN K a b j:=iT _ _ _ h
theorem CS (K a b:List UInt8)(j:Nat)(h:j<b.length):(bN K a b)[j]?=some (fN K a b j):=by simp[bN,tab,h]
theorem CU (U:U8 P t e){p:Array Oper}{rest:List Oper}(y:o.guard=none)(d s:Operand)
  (D:o.op=.call { callee:=.builtin .copy,args:=#[d,s],argTypes:=#[t,t] })
  (T:TypeId) (g f:Nat) (v:Value) (l m:List UInt8) (c n:Nat) (G:a.eval d=.slice (some ⟨g,f,none⟩) n c) (B:a.eval s=v) (z:By T w g m) (C:Rd w v l) (E:l.length<=n) (R:0<l.length) (M:f+l.length<=m.length)
  (h:∀ w',By T w' g (m.take f++(l++m.drop (f+l.length)))->But g w w'->wpList P p Q rest (a.put o.dst (.int .i64 (l.length:Int))) w'):wpList P p Q (o :: rest) a w:=by
 obtain⟨i,F,L,k,H⟩:=U.hi
 have r:(P.info? e).map (·.size)=some 1:=by rw[F];simp[k]
 obtain⟨x,S,rfl,O,N,J,I⟩:=C
 cases x with
 | none=>
  have:=J rfl
  omega
 | some x=>
  refine wpList_copy_own y d s t t D e U.ht r g f _ _ x _ _ G B _ _ z (Lib.byteCells l) (by rw[cO];exact(MS E).symm) (λj aa u=>?_) (by simp[Lib.byteCells];omega) (λaa A=>?_) ?_
  ·have q:j<l.length:=by
    have:=(Ks.1 u).1
    rwa [cO] at this
   rw[gC l j q] at u
   cases u
   exact I x rfl j q
  ·obtain⟨b,_,rfl⟩:=KN.1 A
   rfl
  ·have K:(goInt (Lib.byteCells l).length)=.int .i64 (l.length:Int):=by rw[cO];rfl
   rw[K]
   refine h _ ?_ (But.setRow g w _)
   unfold By
   rw[setRow_heap w g _ _ T _ z]
   congr 2
   simp[Lib.byteCells,List.map_drop,List.map_take]
theorem FC (f:Nat)(s:List UInt8)(w:World)(hs:s.length=16)(g:By 231 w f s):
  Calls prog 243 #[.pointer (some ⟨f,0,none⟩)] w λe w'=>e=.returned (.tuple #[])/\By 231 w' f (dE s)/\Wr f w w':=by
 have H0:=JE (iA.begin hs);have HN:=JE (λl n h hn a b c d=>iA.next (t:=s) (l:=l) (n:=n) h hn a b c d);have HA:=JE (λl (h:iA s (4*4) l)=>h.all);generalize dE s=X at *;go_enter func243,ntmps243;go_wp2_with fail;go_loopw[2] (λp wr=>∃ (n:Nat) (l:List UInt8),n<=4/\p=.int .i64 (4*n:Nat)/\Hid (iA s (4*n) l)/\By 231 wr f l/\Wr f w wr) (λp _=>16 - (intOf p).toNat)
 case atStart=>exact⟨0,s,by omega,rfl,H0,g,Wr.refl _ _⟩
 case round=>
  clear g H0;obtain⟨n,l,hn,rfl,j,g,hw⟩:=hrel;by_cases z:n<4
  ·have hl:=j.out.1
   have g0:l.getD (4*n) 0=s.getD (4*n) 0:=by rw[j.out.2 _ (by omega),if_neg (by omega)]
   have g1:l.getD (4*n+1) 0=s.getD (4*n+1) 0:=by rw[j.out.2 _ (by omega),if_neg (by omega)]
   have g2:l.getD (4*n+2) 0=s.getD (4*n+2) 0:=by rw[j.out.2 _ (by omega),if_neg (by omega)]
   have g3:l.getD (4*n+3) 0=s.getD (4*n+3) 0:=by rw[j.out.2 _ (by omega),if_neg (by omega)]
   have N:=g.cell (4*n) (by omega);have r:=g.cell (4*n+1) (by omega);have o:=g.cell (4*n+2) (by omega);have u:=g.cell (4*n+3) (by omega);have H:=g.frozen (4*n);rw[g0] at N;rw[g1] at r;rw[g2] at o;rw[g3] at u;obtain⟨a,ha⟩:∃ a,s.getD (4*n) 0=a:=⟨_,rfl⟩;obtain⟨b,hb⟩:∃ b,s.getD (4*n+1) 0=b:=⟨_,rfl⟩;obtain⟨c,hc⟩:∃ c,s.getD (4*n+2) 0=c:=⟨_,rfl⟩;obtain⟨d,hd⟩:∃ d,s.getD (4*n+3) 0=d:=⟨_,rfl⟩;have HT:=JE (HN.out l n j.out z a b c d ha hb hc hd);rw[ha] at N;rw[hb] at r;rw[hc] at o;rw[hd] at u;have hN:n<4:=z;have q:((4*n:Nat):Int)<16:=by omega
   obtain⟨i,hi⟩:∃ i,4*n=i:=⟨_,rfl⟩;rw[hi] at q N r o u H HT ⊢;have au:i+3<16:=by omega
   have i1:IntKind.i64.wrap ((i:Int)+1)=(i:Int)+1:=JI _ (by omega);have i2:IntKind.i64.wrap ((i:Int)+2)=(i:Int)+2:=JI _ (by omega);have i3:IntKind.i64.wrap ((i:Int)+3)=(i:Int)+3:=JI _ (by omega);have q1:(i:Int)+1<16:=by omega
   have q2:(i:Int)+2<16:=by omega
   have q3:(i:Int)+3<16:=by omega
   have bV:((i:Int)+1).toNat=i+1:=by omega
   have t2:((i:Int)+2).toNat=i+2:=by omega
   have t3:((i:Int)+3).toNat=i+3:=by omega
   have HI:=JE hi;have p1:(0:Int)<=(i:Int)+1:=by omega
   have p2:(0:Int)<=(i:Int)+2:=by omega
   have aV:(0:Int)<=(i:Int)+3:=by omega
   obtain⟨m1,m2,m3⟩:=Fv a b c d;have m0:=qj a b c d;have M:=cz a b;have L:=cz (a ^^^ b) c;have K:=cz (a ^^^ b ^^^ c) d;have x4:=cz b c;have x5:=cz c d;have x6:=cz d a;have J:=cz (a ^^^ b ^^^ c ^^^ d) (bd (a ^^^ b) 2);have y1:=cz (a ^^^ b ^^^ c ^^^ d) (bd (b ^^^ c) 2);have y2:=cz (a ^^^ b ^^^ c ^^^ d) (bd (c ^^^ d) 2);have y3:=cz (a ^^^ b ^^^ c ^^^ d) (bd (d ^^^ a) 2);have v:=cz a (a ^^^ b ^^^ c ^^^ d ^^^ bd (a ^^^ b) 2);have T:=cz b (a ^^^ b ^^^ c ^^^ d ^^^ bd (b ^^^ c) 2);have S:=cz c (a ^^^ b ^^^ c ^^^ d ^^^ bd (c ^^^ d) 2);have R:=cz d (a ^^^ b ^^^ c ^^^ d ^^^ bd (d ^^^ a) 2);rw[<-m0] at v;rw[<-m1] at T;rw[<-m2] at S;rw[<-m3] at R;have d0:=JE (λW=>lZ (a ^^^ b) W);have d1:=JE (λW=>lZ (b ^^^ c) W);have d2:=JE (λW=>lZ (c ^^^ d) W);have d3:=JE (λW=>lZ (d ^^^ a) W);clear m0 m1 m2 m3;generalize ez a b c d=A at *;generalize ez b c d a=B at *;generalize ez c d a b=C at *;generalize ez d a b c=D at *;generalize a ^^^ b ^^^ c ^^^ d ^^^ bd (a ^^^ b) 2=E0 at *;generalize a ^^^ b ^^^ c ^^^ d ^^^ bd (b ^^^ c) 2=E1 at *;generalize a ^^^ b ^^^ c ^^^ d ^^^ bd (c ^^^ d) 2=E2 at *;generalize a ^^^ b ^^^ c ^^^ d ^^^ bd (d ^^^ a) 2=E3 at *;generalize bd (a ^^^ b) 2=D0 at *;generalize bd (b ^^^ c) 2=D1 at *;generalize bd (c ^^^ d) 2=D2 at *;generalize bd (d ^^^ a) 2=D3 at *;generalize a ^^^ b ^^^ c ^^^ d=F at *;generalize a ^^^ b ^^^ c=G at *;generalize a ^^^ b=X0 at *;generalize b ^^^ c=X1 at *;generalize c ^^^ d=X2 at *;generalize d ^^^ a=X3 at *;have P1:=JE (JN x4 (JN y1 (JN T (JN i1 (JN q1 (JN bV p1))))));have P2:=JE (JN x5 (JN y2 (JN S (JN i2 (JN q2 (JN t2 p2))))));have P3:=JE (JN x6 (JN y3 (JN R (JN i3 (JN q3 (JN t3 aV))))));have PX:=JE (JN M (JN L K));have P0:=JE (JN J v);have HF:=JE H;clear g0 g1 g2 g3 ha hb hc hd hN hi j M L K x4 x5 x6 J y1 y2 y3 v T S R H;go_wp2_with fail;go_region
   obtain⟨M,L,K⟩:=PX.out;clear i1 i2 i3 p1 p2 aV bV t2 t3 q1 q2 q3;have C1:=JE r;have C2:=JE o;have C3:=JE u;clear r o u;go_wp2_with fail;have H:=HF.out;obtain⟨J,v⟩:=P0.out;clear L K;apply later
   case ways=>
    intro key;go_region_with (go_at_call 240;refine(d0.out _).mono ?_;rintro _ _ ⟨rfl,rfl⟩)
    all_goals exact key.out
   case rest=>
    constructor;have m:By 231 ((wr.setCell ⟨f,i,none⟩ (.int .u8 (A.toNat:Int))).drew.drew) f (l.set i A):=g.set (i) A rfl;have y:Wr f w ((wr.setCell ⟨f,i,none⟩ (.int .u8 (A.toNat:Int))).drew.drew):=((hw.setCell (i) _).drew).drew;have ar:Hid (((wr.setCell ⟨f,i,none⟩ (.int .u8 (A.toNat:Int))).drew.drew).cell? ⟨f,i+1,none⟩=some (.int .u8 (b.toNat:Int))):=(LU _ _ _ _ (by simp)).trans C1.out;have aq:Hid (((wr.setCell ⟨f,i,none⟩ (.int .u8 (A.toNat:Int))).drew.drew).cell? ⟨f,i+2,none⟩=some (.int .u8 (c.toNat:Int))):=(LU _ _ _ _ (by simp)).trans C2.out;have ao:Hid (((wr.setCell ⟨f,i,none⟩ (.int .u8 (A.toNat:Int))).drew.drew).cell? ⟨f,i+3,none⟩=some (.int .u8 (d.toNat:Int))):=(LU _ _ _ _ (by simp)).trans C3.out;generalize (wr.setCell ⟨f,i,none⟩ (.int .u8 (A.toNat:Int))).drew.drew=I at *;have r:=ar.out;have f1:=m.frozen (i+1);obtain⟨Z,V,Q,ai,ae,ab,ag⟩:=P1.out;clear g hw M J v N H;go_wp2_with fail;apply later
    case ways=>
     intro key;go_region_with (go_at_call 240;refine(d1.out _).mono ?_;rintro _ _ ⟨rfl,rfl⟩)
     all_goals exact key.out
    case rest=>
     constructor;have k:By 231 ((I.setCell ⟨f,i+1,none⟩ (.int .u8 (B.toNat:Int))).drew) f ((l.set i A).set (i+1) B):=m.set (i+1) B rfl;have x:Wr f w ((I.setCell ⟨f,i+1,none⟩ (.int .u8 (B.toNat:Int))).drew):=(y.setCell (i+1) _).drew;have ap:Hid (((I.setCell ⟨f,i+1,none⟩ (.int .u8 (B.toNat:Int))).drew).cell? ⟨f,i+2,none⟩=some (.int .u8 (c.toNat:Int))):=(LU _ _ _ _ (by simp)).trans aq.out;have an:Hid (((I.setCell ⟨f,i+1,none⟩ (.int .u8 (B.toNat:Int))).drew).cell? ⟨f,i+3,none⟩=some (.int .u8 (d.toNat:Int))):=(LU _ _ _ _ (by simp)).trans ao.out;generalize (I.setCell ⟨f,i+1,none⟩ (.int .u8 (B.toNat:Int))).drew=O at *;have o:=ap.out;have f2:=k.frozen (i+2);obtain⟨Y,U,P,ah,ad,aa,af⟩:=P2.out;clear m y r f1 Z V Q ai ae ab ag;go_wp2_with fail;apply later
     case ways=>
      intro key;go_region_with (go_at_call 240;refine(d2.out _).mono ?_;rintro _ _ ⟨rfl,rfl⟩)
      all_goals exact key.out
     case rest=>
      constructor;have E:By 231 ((O.setCell ⟨f,i+2,none⟩ (.int .u8 (C.toNat:Int))).drew) f (((l.set i A).set (i+1) B).set (i+2) C):=k.set (i+2) C rfl;have ak:Wr f w ((O.setCell ⟨f,i+2,none⟩ (.int .u8 (C.toNat:Int))).drew):=(x.setCell (i+2) _).drew;have am:Hid (((O.setCell ⟨f,i+2,none⟩ (.int .u8 (C.toNat:Int))).drew).cell? ⟨f,i+3,none⟩=some (.int .u8 (d.toNat:Int))):=(LU _ _ _ _ (by simp)).trans an.out;generalize (O.setCell ⟨f,i+2,none⟩ (.int .u8 (C.toNat:Int))).drew=W3 at *;have u:=am.out;have f3:=E.frozen (i+3);obtain⟨ax,aw,av,aB,az,ay,aA⟩:=P3.out;clear k x o f2 Y U P ah ad aa af;go_wp2_with fail;apply later
      case ways=>
       intro key;go_region_with (go_at_call 240;refine(d3.out _).mono ?_;rintro _ _ ⟨rfl,rfl⟩)
       all_goals exact key.out
      case rest=>
       constructor;have al:By 231 ((W3.setCell ⟨f,i+3,none⟩ (.int .u8 (D.toNat:Int))).drew) f ((((l.set i A).set (i+1) B).set (i+2) C).set (i+3) D):=E.set (i+3) D rfl;have aj:Wr f w ((W3.setCell ⟨f,i+3,none⟩ (.int .u8 (D.toNat:Int))).drew):=(ak.setCell (i+3) _).drew;generalize (W3.setCell ⟨f,i+3,none⟩ (.int .u8 (D.toNat:Int))).drew=W4 at *;have i4:IntKind.i64.wrap ((i:Int)+4)=((4*(n+1):Nat):Int):=by rw[JI _ (by omega),<-HI.out];omega
       go_wp2_with fail;go_roundw
       case rel=>exact⟨n+1,_,by omega,rfl,HT,al,aj⟩
       case measure=>have hI:=HI.out;simp[intOf];omega
  ·obtain rfl:n=4:=by omega
   have hx:=HA.out l j.out;rw[hx] at g;go_wp2_with fail;go_end0
   exact⟨rfl,g,hw⟩
theorem sY (s K:List UInt8)(n:Nat):fR s (cJ K n)=dW s K n:=by
 unfold fR dW tab;apply Ni;intro i a;rw[gd (by simpa using a)]
theorem FQ (K s:List UInt8)(n:Nat)(h:n+1<10):dW (dE (cT (dF K s n))) K (n+1)=dF K s (n+1):=by
 rw[dF,rP,if_pos h]
theorem FR (K s:List UInt8)(n:Nat)(h:¬n+1<10):dW (cT (dF K s n)) K (n+1)=dF K s (n+1):=by
 rw[dF,rP,if_neg h]
theorem FT (gc a E:Nat)(s K:List UInt8)(w:World)(R:s.length=16)(hK:K.length=176)(b:gc≠a)(g:E≠a)(M:Cph w gc E K)(A:By 231 w a s):
  Calls prog 206 #[.pointer (some ⟨gc,0,none⟩),.pointer (some ⟨a,0,none⟩)] w λe w'=>e=.returned (.tuple #[])/\By 231 w' a (eA K s)/\Wr a w w':=by
 have G:Hid (∀ n,n<=10->(cJ K n).length=16):=λn I=>it (by omega)
 have f:Hid (∀ W n,n<=10->Cph W gc E K->dQ W gc (1+n*16) (cJ K n)):=λW n I h=>by
  rw[Me];exact h.rows.row (by omega)
 have O:=f.out w 0 (by omega) M;have x:Hid (∀ n,(dF K s n).length=16):=rQ K s;have o:=sT a gc 1 s (cJ K 0) w R (G.out 0 (by omega)) b A O;rw[sY] at o;have j:Calls prog 241 #[.pointer (some ⟨a,0,none⟩),.pointer (some ⟨gc,1,none⟩)] w λe w'=>e=.returned (.tuple #[])/\By 231 w' a (dF K s 0)/\Wr a w w':=o
 clear o O;go_enter func206,ntmps206;go_wp2_with fail;refine j.mono ?_;rintro _ T ⟨rfl,z,v⟩;clear j A;go_wp2_with fail;go_loopw[11] (λp wr=>∃ n:Nat,n<=10/\p=.int .i64 n/\By 231 wr a (dF K s n)/\Wr a w wr) (λp _=>10 - (intOf p).toNat)
 case atStart=>exact⟨0,by omega,rfl,z,v⟩
 case round=>
  clear z v;obtain⟨n,I,rfl,A,C⟩:=hrel;by_cases S:n<10
  ·have X:(n:Int)<10:=by omega
   have V:(n:Int)+1<11:=by omega
   have U:(0:Int)<=(n:Int)+1:=by omega
   have Z:IntKind.i64.wrap ((n:Int)+1)=(n:Int)+1:=JI _ (by omega);have Y:((n:Int)+1).toNat=n+1:=by omega
   have i:=M.wr C b g;have D:=Fu gc a E (dF K s n) wr (x.out n) b g i.ptr i.box A;by_cases N:n+1<10
   ·have m:=JE (FQ K s n N)
    have Q:(n:Int)+1<10:=by omega
    generalize F:dF K s n=L at *;clear F;go_wp2_with fail;refine D.mono ?_;rintro _ w2 ⟨rfl,d,c⟩;have J:=FC a (cT L) w2 (ma L) d;go_wp2_with fail;refine J.mono ?_;rintro _ H ⟨rfl,y,u⟩;have r:=i.wr (c.trans u) b g;have q:=sT a gc (1+(n+1)*16) (dE (cT L)) (cJ K (n+1)) H (ym _) (G.out (n+1) (by omega)) b y (f.out H (n+1) (by omega) r);rw[sY,m.out] at q;have B:=JE q;clear q D J d y;go_wp2_with fail;refine B.out.mono ?_;rintro _ P ⟨rfl,t,l⟩;have k:=((C.trans c).trans u).trans l;clear B;go_wp2_with fail;go_roundw
    case rel=>exact⟨n+1,by omega,by go_num,t,k⟩
    case measure=>simp[intOf];omega
   ·have m:=JE (FR K s n N)
    have Q:¬(n:Int)+1<10:=by omega
    generalize F:dF K s n=L at *;clear F;go_wp2_with fail;refine D.mono ?_;rintro _ w2 ⟨rfl,d,c⟩;have r:=i.wr c b g;have q:=sT a gc (1+(n+1)*16) (cT L) (cJ K (n+1)) w2 (ma _) (G.out (n+1) (by omega)) b d (f.out w2 (n+1) (by omega) r);rw[sY,m.out] at q;have B:=JE q;clear q D d;go_wp2_with fail;refine B.out.mono ?_;rintro _ P ⟨rfl,t,l⟩;have k:=(C.trans c).trans l;clear B;go_wp2_with fail;go_roundw
    case rel=>exact⟨n+1,by omega,by go_num,t,k⟩
    case measure=>simp[intOf];omega
  ·obtain rfl:n=10:=by omega
   go_wp2_with fail;go_end0
   exact⟨rfl,A,C⟩
theorem Rd.nil (w:World):Rd w (.slice none 0 0) []:=⟨none,0,rfl,JO _,JW _,λ_=>rfl,λx a=>by cases a⟩

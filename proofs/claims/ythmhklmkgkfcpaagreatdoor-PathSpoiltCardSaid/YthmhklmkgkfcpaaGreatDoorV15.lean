import Derived.Test.YthmhklmkgkfcpaaGreatDoorV10
import Derived.Deep.MidRow
set_option linter.all false
set_option maxHeartbeats 8000000
set_option maxRecDepth 100000
namespace Go.Proofs.YthmhklmkgkfcpaaGreatDoor
open Go.Proofs.Tryz Go.RowKit
variable {K:List UInt8}{a b gc n o:Nat}{w w':World}
theorem EJ (f:Nat)(s:List UInt8)(w:World)(hs:s.length=16)(g:By 231 w f s):
  Calls prog 243 #[.pointer (some ⟨f,0,none⟩)] w λe w'=>e=.returned (.tuple #[])/\By 231 w' f (ii s)/\Wr f w w':=by
 have H0:=Lib.hid (gH.begin hs);have HN:=Lib.hid (λl n h hn a b c d=>gH.next (t:=s) (l:=l) (n:=n) h hn a b c d);have HA:=Lib.hid (λl (h:gH s (4*4) l)=>h.all);generalize ii s=X at *;go_enter func243,ntmps243;go_wp2_with fail;go_loopw[2] (λp wr=>∃ (n:Nat) (l:List UInt8),n<=4/\p=.int .i64 (4*n:Nat)/\Hid (gH s (4*n) l)/\By 231 wr f l/\Wr f w wr) (λp _=>16 - (intOf p).toNat)
 case atStart=>exact⟨0,s,by omega,rfl,H0,g,Wr.refl _ _⟩
 case round=>
  clear g H0;obtain⟨n,l,hn,rfl,j,g,hw⟩:=hrel;by_cases z:n<4
  ·have hl:=j.out.1
   have g0:l.getD (4*n) 0=s.getD (4*n) 0:=by rw[j.out.2 _ (by omega),if_neg (by omega)]
   have g1:l.getD (4*n+1) 0=s.getD (4*n+1) 0:=by rw[j.out.2 _ (by omega),if_neg (by omega)]
   have g2:l.getD (4*n+2) 0=s.getD (4*n+2) 0:=by rw[j.out.2 _ (by omega),if_neg (by omega)]
   have g3:l.getD (4*n+3) 0=s.getD (4*n+3) 0:=by rw[j.out.2 _ (by omega),if_neg (by omega)]
   have N:=g.cell (4*n) (by omega);have r:=g.cell (4*n+1) (by omega);have o:=g.cell (4*n+2) (by omega);have u:=g.cell (4*n+3) (by omega);have H:=g.frozen (4*n);rw[g0] at N;rw[g1] at r;rw[g2] at o;rw[g3] at u;obtain⟨a,ha⟩:∃ a,s.getD (4*n) 0=a:=⟨_,rfl⟩;obtain⟨b,hb⟩:∃ b,s.getD (4*n+1) 0=b:=⟨_,rfl⟩;obtain⟨c,hc⟩:∃ c,s.getD (4*n+2) 0=c:=⟨_,rfl⟩;obtain⟨d,hd⟩:∃ d,s.getD (4*n+3) 0=d:=⟨_,rfl⟩;have HT:=Lib.hid (HN.out l n j.out z a b c d ha hb hc hd);rw[ha] at N;rw[hb] at r;rw[hc] at o;rw[hd] at u;have hN:n<4:=z;have q:((4*n:Nat):Int)<16:=by omega
   obtain⟨i,hi⟩:∃ i,4*n=i:=⟨_,rfl⟩;rw[hi] at q N r o u H HT ⊢;have au:i+3<16:=by omega
   have i1:IntKind.i64.wrap ((i:Int)+1)=(i:Int)+1:=IA _ (by omega);have i2:IntKind.i64.wrap ((i:Int)+2)=(i:Int)+2:=IA _ (by omega);have i3:IntKind.i64.wrap ((i:Int)+3)=(i:Int)+3:=IA _ (by omega);have q1:(i:Int)+1<16:=by omega
   have q2:(i:Int)+2<16:=by omega
   have q3:(i:Int)+3<16:=by omega
   have t1:((i:Int)+1).toNat=i+1:=by omega
   have t2:((i:Int)+2).toNat=i+2:=by omega
   have t3:((i:Int)+3).toNat=i+3:=by omega
   have HI:=Lib.hid hi;have p1:(0:Int)<=(i:Int)+1:=by omega
   have p2:(0:Int)<=(i:Int)+2:=by omega
   have aW:(0:Int)<=(i:Int)+3:=by omega
   obtain⟨m1,m2,m3⟩:=EH a b c d;have m0:=pt a b c d;have M:=da a b;have L:=da (a ^^^ b) c;have K:=da (a ^^^ b ^^^ c) d;have x4:=da b c;have x5:=da c d;have x6:=da d a;have J:=da (a ^^^ b ^^^ c ^^^ d) (bF (a ^^^ b) 2);have y1:=da (a ^^^ b ^^^ c ^^^ d) (bF (b ^^^ c) 2);have y2:=da (a ^^^ b ^^^ c ^^^ d) (bF (c ^^^ d) 2);have y3:=da (a ^^^ b ^^^ c ^^^ d) (bF (d ^^^ a) 2);have v:=da a (a ^^^ b ^^^ c ^^^ d ^^^ bF (a ^^^ b) 2);have T:=da b (a ^^^ b ^^^ c ^^^ d ^^^ bF (b ^^^ c) 2);have S:=da c (a ^^^ b ^^^ c ^^^ d ^^^ bF (c ^^^ d) 2);have R:=da d (a ^^^ b ^^^ c ^^^ d ^^^ bF (d ^^^ a) 2);rw[<-m0] at v;rw[<-m1] at T;rw[<-m2] at S;rw[<-m3] at R;have d0:=Lib.hid (λW=>lj (a ^^^ b) W);have d1:=Lib.hid (λW=>lj (b ^^^ c) W);have d2:=Lib.hid (λW=>lj (c ^^^ d) W);have d3:=Lib.hid (λW=>lj (d ^^^ a) W);clear m0 m1 m2 m3;generalize eU a b c d=A at *;generalize eU b c d a=B at *;generalize eU c d a b=C at *;generalize eU d a b c=D at *;generalize a ^^^ b ^^^ c ^^^ d ^^^ bF (a ^^^ b) 2=E0 at *;generalize a ^^^ b ^^^ c ^^^ d ^^^ bF (b ^^^ c) 2=E1 at *;generalize a ^^^ b ^^^ c ^^^ d ^^^ bF (c ^^^ d) 2=E2 at *;generalize a ^^^ b ^^^ c ^^^ d ^^^ bF (d ^^^ a) 2=E3 at *;generalize bF (a ^^^ b) 2=D0 at *;generalize bF (b ^^^ c) 2=D1 at *;generalize bF (c ^^^ d) 2=D2 at *;generalize bF (d ^^^ a) 2=D3 at *;generalize a ^^^ b ^^^ c ^^^ d=F at *;generalize a ^^^ b ^^^ c=G at *;generalize a ^^^ b=X0 at *;generalize b ^^^ c=X1 at *;generalize c ^^^ d=X2 at *;generalize d ^^^ a=X3 at *;have P1:=Lib.hid (IC x4 (IC y1 (IC T (IC i1 (IC q1 (IC t1 p1))))));have P2:=Lib.hid (IC x5 (IC y2 (IC S (IC i2 (IC q2 (IC t2 p2))))));have P3:=Lib.hid (IC x6 (IC y3 (IC R (IC i3 (IC q3 (IC t3 aW))))));have PX:=Lib.hid (IC M (IC L K));have P0:=Lib.hid (IC J v);have HF:=Lib.hid H;clear g0 g1 g2 g3 ha hb hc hd hN hi j M L K x4 x5 x6 J y1 y2 y3 v T S R H;go_wp2_with fail;go_region
   obtain⟨M,L,K⟩:=PX.out;clear i1 i2 i3 p1 p2 aW t1 t2 t3 q1 q2 q3;have C1:=Lib.hid r;have C2:=Lib.hid o;have C3:=Lib.hid u;clear r o u;go_wp2_with fail;have H:=HF.out;obtain⟨J,v⟩:=P0.out;clear L K;apply later
   case ways=>
    intro key;go_region_with (go_at_call 240;refine(d0.out _).mono ?_;rintro _ _ ⟨rfl,rfl⟩)
    all_goals exact key.out
   case rest=>
    constructor;have m:By 231 ((wr.setCell ⟨f,i,none⟩ (.int .u8 (A.toNat:Int))).drew.drew) f (l.set i A):=g.set (i) A rfl;have y:Wr f w ((wr.setCell ⟨f,i,none⟩ (.int .u8 (A.toNat:Int))).drew.drew):=((hw.setCell (i) _).drew).drew;have ar:Hid (((wr.setCell ⟨f,i,none⟩ (.int .u8 (A.toNat:Int))).drew.drew).cell? ⟨f,i+1,none⟩=some (.int .u8 (b.toNat:Int))):=(Ke _ _ _ _ (by simp)).trans C1.out;have aq:Hid (((wr.setCell ⟨f,i,none⟩ (.int .u8 (A.toNat:Int))).drew.drew).cell? ⟨f,i+2,none⟩=some (.int .u8 (c.toNat:Int))):=(Ke _ _ _ _ (by simp)).trans C2.out;have ao:Hid (((wr.setCell ⟨f,i,none⟩ (.int .u8 (A.toNat:Int))).drew.drew).cell? ⟨f,i+3,none⟩=some (.int .u8 (d.toNat:Int))):=(Ke _ _ _ _ (by simp)).trans C3.out;generalize (wr.setCell ⟨f,i,none⟩ (.int .u8 (A.toNat:Int))).drew.drew=I at *;have r:=ar.out;have f1:=m.frozen (i+1);obtain⟨Z,V,Q,ai,ae,ab,ag⟩:=P1.out;clear g hw M J v N H;go_wp2_with fail;apply later
    case ways=>
     intro key;go_region_with (go_at_call 240;refine(d1.out _).mono ?_;rintro _ _ ⟨rfl,rfl⟩)
     all_goals exact key.out
    case rest=>
     constructor;have k:By 231 ((I.setCell ⟨f,i+1,none⟩ (.int .u8 (B.toNat:Int))).drew) f ((l.set i A).set (i+1) B):=m.set (i+1) B rfl;have x:Wr f w ((I.setCell ⟨f,i+1,none⟩ (.int .u8 (B.toNat:Int))).drew):=(y.setCell (i+1) _).drew;have ap:Hid (((I.setCell ⟨f,i+1,none⟩ (.int .u8 (B.toNat:Int))).drew).cell? ⟨f,i+2,none⟩=some (.int .u8 (c.toNat:Int))):=(Ke _ _ _ _ (by simp)).trans aq.out;have an:Hid (((I.setCell ⟨f,i+1,none⟩ (.int .u8 (B.toNat:Int))).drew).cell? ⟨f,i+3,none⟩=some (.int .u8 (d.toNat:Int))):=(Ke _ _ _ _ (by simp)).trans ao.out;generalize (I.setCell ⟨f,i+1,none⟩ (.int .u8 (B.toNat:Int))).drew=O at *;have o:=ap.out;have f2:=k.frozen (i+2);obtain⟨Y,U,P,ah,ad,aa,af⟩:=P2.out;clear m y r f1 Z V Q ai ae ab ag;go_wp2_with fail;apply later
     case ways=>
      intro key;go_region_with (go_at_call 240;refine(d2.out _).mono ?_;rintro _ _ ⟨rfl,rfl⟩)
      all_goals exact key.out
     case rest=>
      constructor;have E:By 231 ((O.setCell ⟨f,i+2,none⟩ (.int .u8 (C.toNat:Int))).drew) f (((l.set i A).set (i+1) B).set (i+2) C):=k.set (i+2) C rfl;have ak:Wr f w ((O.setCell ⟨f,i+2,none⟩ (.int .u8 (C.toNat:Int))).drew):=(x.setCell (i+2) _).drew;have am:Hid (((O.setCell ⟨f,i+2,none⟩ (.int .u8 (C.toNat:Int))).drew).cell? ⟨f,i+3,none⟩=some (.int .u8 (d.toNat:Int))):=(Ke _ _ _ _ (by simp)).trans an.out;generalize (O.setCell ⟨f,i+2,none⟩ (.int .u8 (C.toNat:Int))).drew=W3 at *;have u:=am.out;have f3:=E.frozen (i+3);obtain⟨ax,aw,av,aB,az,ay,aA⟩:=P3.out;clear k x o f2 Y U P ah ad aa af;go_wp2_with fail;apply later
      case ways=>
       intro key;go_region_with (go_at_call 240;refine(d3.out _).mono ?_;rintro _ _ ⟨rfl,rfl⟩)
       all_goals exact key.out
      case rest=>
       constructor;have al:By 231 ((W3.setCell ⟨f,i+3,none⟩ (.int .u8 (D.toNat:Int))).drew) f ((((l.set i A).set (i+1) B).set (i+2) C).set (i+3) D):=E.set (i+3) D rfl;have aj:Wr f w ((W3.setCell ⟨f,i+3,none⟩ (.int .u8 (D.toNat:Int))).drew):=(ak.setCell (i+3) _).drew;generalize (W3.setCell ⟨f,i+3,none⟩ (.int .u8 (D.toNat:Int))).drew=W4 at *;have i4:IntKind.i64.wrap ((i:Int)+4)=((4*(n+1):Nat):Int):=by rw[IA _ (by omega),<-HI.out];omega
       go_wp2_with fail;go_roundw
       case rel=>exact⟨n+1,_,by omega,rfl,HT,al,aj⟩
       case measure=>have hI:=HI.out;simp[intOf];omega
  ·obtain rfl:n=4:=by omega
   have hx:=HA.out l j.out;rw[hx] at g;go_wp2_with fail;go_end0
   exact⟨rfl,g,hw⟩
theorem EN {cs:List Value}(k:Kp w w')(h:w.rangeAt b o cs):w'.rangeAt b o cs:=λj v a=>k.cell (h j v a)
theorem rJ (k:Kp w w')(h:w.there b o n):w'.there b o n:=λj c=>by
 obtain⟨f,e⟩:=h j c;obtain⟨v,a⟩:=Option.isSome_iff_exists.1 f;have d:=Jb w _ a;refine⟨by rw[k.cell a];rfl,?_⟩;rw[<-e];have:=k.block b d;simp only[World.frozen?,this]
theorem wx {o' n':Nat}(h:w.there b o n)(d:o<=o')(c:o'+n'<=o+n):w.there b o' n':=λj a=>by
 have:=h (o' - o+j) (by omega);rwa [show o+(o' - o+j)=o'+j by omega] at this
theorem dj.range (h:dj w b o K)(e:16*n+16<=K.length):w.rangeAt b (o+16*n) (Lib.byteCells (bW K n)):=λj v a=>by
 have f:=gC e;have c:j<(bW K n).length:=by
  have:=(Jk.1 a).1;rwa [cX] at this
 rw[iz _ j c] at a;cases a;have d:=h (16*n+j) (by omega);rw[<-fA (by omega),Iw,Iy c] at d;rw[Kw,d];rfl
theorem dj.row (h:dj w b o K)(c:16*n+16<=K.length):dj w b (o+16*n) (bW K n):=λi a=>by
 rw[gC c] at a;rw[fA a,Kw];exact h (16*n+i) (by omega)
theorem rK (K:List UInt8)(m i:Nat)(h:i<m):(K.take m).getD i 0=K.getD i 0:=by
 rw[Iw,Kz h,Iw]
theorem dj.store (h:dj w b o (K.take (16*(n+1))))(f:w.there b o K.length)(g:16*(n+1)+16<=K.length):
  dj (w.setCells b (o+16*(n+1)) (Lib.byteCells (bW K (n+1)))) b o (K.take (16*(n+1+1))):=λi k=>by
 have l:=gC g;have c:i<16*(n+1+1):=by rw[Ja] at k;omega
 rw[rK _ _ _ c];by_cases d:i<16*(n+1)
 ·rw[World.cell?_setCells_out b _ _ _ _ (λ_ _=>.inl (by show o+i<o+16*(n+1);omega))]
  have:=h i (by rw[Ja];omega);rwa [rK _ _ _ d] at this
 ·have a:i - 16*(n+1)<(bW K (n+1)).length:=by omega
  have:=World.cell?_setCells_in b (Lib.byteCells (bW K (n+1))) (o+16*(n+1)) w (λj a=>((wx f (o':=o+16*(n+1)) (n':=16) (by omega) (by omega)) j (by rw[cX] at a;omega)).1) (i - 16*(n+1)) (by rw[cX];exact a);rw[show o+16*(n+1)+(i - 16*(n+1))=o+i by omega] at this;rw[this];have e:=iz _ _ a;rw[Iy (by rw[cX];exact a)] at e;rw[Ld e];have:=fA (K:=K) (n:=n+1) (j:=i - 16*(n+1)) (by omega);rw[show 16*(n+1)+(i - 16*(n+1))=i by omega,Iw,Iy a] at this;rw[<-this];rfl
theorem wN {g:Nat}:∀ (vs:List Value) (o:Nat) (A w:World),Wr g A w->Wr g A (w.setCells g o vs)
 | [],_,_,_,h=>h
 | v :: r,o,A,w,h=>wN r (o+1) A _ (h.setCell o v)
structure Cph (w:World)(gc bx:Nat)(K:List UInt8):Prop where
 ptr:w.cell? ⟨gc,0,none⟩=some (.pointer (some ⟨bx,0,none⟩))
 rows:dj w gc 1 K
 box:By 283 w bx ix
theorem Cph.kp (h:Cph w gc a K)(k:Kp w w'):Cph w' gc a K:=⟨k.cell h.ptr,h.rows.kp k,h.box.kp k⟩
theorem Cph.wr (h:Cph w gc b K)(k:Wr a w w')(c:gc≠a)(d:b≠a):Cph w' gc b K:=⟨k.cell h.ptr c,h.rows.wr k c,k.by h.box d⟩
theorem EO:∀ w,(zeroValue 261).run prog w=.ok (.agg (#[.pointer none]++bt (List.replicate 176 0))) w:=(zero_of_info (n:=177) (by kernel_rfl)).1
theorem EP (l:List UInt8)(v:Value):(#[Value.pointer none]++bt l).setIfInBounds 0 v=#[v]++bt l:=by
 apply Array.ext';simp
theorem ER {T:TypeId}{p:Value}{key:List UInt8}(a:w.heap[gc]?=some (.cells ((#[p]++bt (List.replicate 176 0)).toList.take 1++(Lib.byteCells key++(#[p]++bt (List.replicate 176 0)).toList.drop (1+(Lib.byteCells key).length))).toArray T (0,0)))(c:key.length=16):
  w.cell? ⟨gc,0,none⟩=some p/\dj w gc 1 key/\w.there gc 1 176:=by
 have e:((#[p]++bt (List.replicate 176 0)).toList.take 1++(Lib.byteCells key++(#[p]++bt (List.replicate 176 0)).toList.drop (1+(Lib.byteCells key).length)))=p :: (Lib.byteCells key++(Lib.byteCells (List.replicate 176 0)).drop 16):=by
  rw[cX,c];simp[bt]
 rw[e] at a;have d:(Lib.byteCells key++(Lib.byteCells (List.replicate 176 0)).drop 16).length=176:=by rw[IE,JK,cX,cX,c,JD]
 refine⟨by rw[cell_of_row _ _ _ _ _ _ a];simp,λi b=>?_,λj f=>⟨?_,?_⟩⟩
 ·rw[cell_of_row _ _ _ _ _ _ a,IJ,LA 1 i,IK,Jh (by rw[cX];exact b),iz key i b,Iw,Iy b]
  rfl
 ·rw[cell_of_row _ _ _ _ _ _ a,IJ,LA 1 j,IK,Iy (by omega)]
  rfl
 ·simp[World.frozen?,a]
theorem ES {key:List UInt8}(h:key.length=16):(eD key).take (16*(0+1))=key:=by
 have:=BV h;unfold bW at this;simpa using this
theorem ET (aa:Value)(key:List UInt8)(w:World)(X:Rd w aa key)(x:key.length=16):
  Calls prog 205 #[aa] w λe w'=>(∃ gc f,e=.returned (.pointer (some ⟨gc,0,none⟩))/\Cph w' gc f (eD key)/\w.heap.size<=gc/\w.heap.size<=f)/\Kp w w':=by
 have U:=ag;have t:(prog.info? 5).map (·.size)=some 1:=by kernel_rfl
 obtain⟨ad,c,rfl,al,aC⟩:=X.shape;rw[x] at al X ⊢;obtain⟨ab,ao,rfl,aD,O⟩:=X.at 0 (by omega);have z1:=EO;have HS:=Lib.hid (EP (List.replicate 176 0));have S:=Lib.hid (fun(w:World) (gc:Nat) (T:TypeId) (p:Value) h=>ER (w:=w) (gc:=gc) (T:=T) (p:=p) (key:=key) h x);have G:(#[Value.pointer none]++bt (List.replicate 176 0)).size=177:=by rw[Array.size_append,iS];rfl
 obtain⟨Z,hZ⟩:∃ Z,#[Value.pointer none]++bt (List.replicate 176 0)=Z:=⟨_,rfl⟩;rw[hZ] at z1 HS G;have hz:¬Z=#[]:=λh=>by rw[h] at G;simp at G
 clear hZ;have HL:=Lib.hid (oO x);have HT:=Lib.hid (ES x);have aw:=Lib.hid (BW x);generalize eD key=K at *;go_enter func205,ntmps205;go_wp2_with fail;refine(EE w).mono ?_;rintro _ q ⟨⟨f,rfl,s,am⟩,V⟩;have J:=V.size;obtain⟨Y,hY⟩:∃ Y,Z.setIfInBounds 0 (Value.pointer (some ⟨f,0,none⟩))=Y:=⟨_,rfl⟩;have C:=HS.out (Value.pointer (some ⟨f,0,none⟩));rw[hY] at C;have HY:=Lib.hid C;have P:Y.size=177:=by rw[<-hY,LQ,G]
 clear C;have z:Hid (∀ W,Kp w W->∀ j v,(Lib.byteCells key)[j]?=some v->W.cell? ((⟨ab,ao,none⟩:Addr).add j)=some v):=λW hW j v hj=>by
  have u:j<key.length:=by
   have:=(Jk.1 hj).1;rwa [cX] at this
  rw[iz key j u] at hj;cases hj;have:=hW.cell (O j (by omega));rw[Addr.add_mid,this,Iw,Iy u];rfl
 have E:=Lib.hid (cX key);clear O X;go_wp2_with(refine wpList_copy_own (cs:=Lib.byteCells key) rfl (.tmp 13) (.tmp 14) 24 24 rfl 5 underlying24 t q.heap.size 1 16 16 ⟨ab,ao,none⟩ 16 c rfl rfl Y 261 (heap_alloc_new q _) (by rw[E.out,x];rfl) (z.out _ (V.alloc _)) (by rw[E.out,x,P];omega) (λv hv=>by obtain⟨b,_,rfl⟩:=Ju.1 hv;rfl) ?_)
 obtain⟨W2,m⟩:∃ W,(q.alloc (.cells Y 261)).setRow q.heap.size (Y.toList.take 1++(Lib.byteCells key++Y.toList.drop (1+(Lib.byteCells key).length))).toArray=W:=⟨_,rfl⟩;rw[m];have hg:W2.heap[q.heap.size]?=some (.cells (Y.toList.take 1++(Lib.byteCells key++Y.toList.drop (1+(Lib.byteCells key).length))).toArray 261 (0,0)):=by
  rw[<-m];exact setRow_heap _ _ Y _ _ _ (heap_alloc_new q _)
 have k2:Kp w W2:=by
  rw[<-m];exact Go.Proofs.YthmhklmkgkfcpaaGreatDoor.below_setRow (V.alloc _) J _
 have X2:By 283 W2 f ix:=by
  rw[<-m];exact(Go.Proofs.YthmhklmkgkfcpaaGreatDoor.setRow_other _ _ _ _ (by have:=s.lt;omega)).trans (s.kp ((Kp.refl q).alloc _))
 rw[HY.out] at hg;obtain⟨p2,l2,t2⟩:=S.out _ _ _ _ hg;have N:f≠q.heap.size:=by have:=s.lt;omega
 rw[<-HT.out] at l2;have L:w.heap.size<=q.heap.size:=J;generalize q.heap.size=gc at *;clear hg m E z S hY HY P s V G HS z1 hz x U t HT;have az:prog.underlying 231=some (.array 16 5):=underlying231;have aB:(prog.info? 231).map (·.size)=some 16:=by kernel_rfl
 go_loopw[4,16] (λr p wr=>∃ n:Nat,n<=10/\p=.int .i64 n/\r=.int .u8 ((jK n).toNat:Int)/\wr.cell? ⟨gc,0,none⟩=some (.pointer (some ⟨f,0,none⟩))/\dj wr gc 1 (K.take (16*(n+1)))/\wr.there gc 1 176/\By 283 wr f ix/\Kp w wr) (λ_ p _=>10 - (intOf p).toNat)
 case atStart=>exact⟨0,by omega,rfl,rfl,p2,l2,t2,X2,k2⟩
 case round=>
  clear p2 l2 t2 X2 k2;obtain⟨n,hn,rfl,rfl,hp,u,ht,s,B⟩:=hrel;by_cases af:n<10
  ·have q1:(n:Int)<10:=by omega
   have q2:(n:Int)<11:=by omega
   have q3:(n:Int)+1<11:=by omega
   have q4:(0:Int)<=(n:Int)+1:=by omega
   have i1:IntKind.i64.wrap ((n:Int)+1)=(n:Int)+1:=IA _ (by omega);have i2:((n:Int)+1).toNat=n+1:=by omega
   have ap:=HL.out;have k:bW (K.take (16*(n+1))) n=bW K n:=by
    refine kP 16 _ _ (gC (by rw[Ja];omega)) (gC (by omega)) λi hi=>?_
    rw[fA hi,fA hi,rK _ _ _ (by omega)]
   have hr:=u.range (n:=n) (by rw[Ja];omega);rw[k,Ks 16 n] at hr;have ae:=wx ht (o':=1+16*(n+1)) (n':=16) (by omega) (by omega);rw[Ks 16 (n+1)] at ae;have ai:(Lib.byteCells (bW K n)).length=16:=by rw[cX];exact gC (by omega)
   have ah:(Lib.byteCells (bW K (n+1))).length=16:=by rw[cX];exact gC (by omega)
   have Q:=aw.out n af;have aA:∀ v∈Lib.byteCells (bW K (n+1)),v.oneCell'=true:=λv hv=>by obtain⟨b,_,rfl⟩:=Ju.1 hv;rfl
   have l:Calls prog 239 #[.pointer (some ⟨gc,0,none⟩),.agg (Lib.byteCells (bW K n)).toArray,.int .u8 ((jK n).toNat:Int)] wr.drew λe w'=>e=.returned (.agg (Lib.byteCells (bW K (n+1))).toArray)/\Kp wr.drew w':=
    EM gc f (bW K n) (bW K (n+1)) (jK n) wr.drew (gC (by omega)) Q hp s.drew
   have D:=Lib.hid l;have HD:=Lib.hid (λW=>lj (jK n) W);have HK:=Lib.hid B;have HP:=Lib.hid hp;have ax:=Lib.hid u;have R:=Lib.hid ht;have ar:=Lib.hid s;have aE:=Lib.hid k;generalize M:Lib.byteCells (bW K n)=aq at *;generalize y:Lib.byteCells (bW K (n+1))=d at *;have HC:=Lib.hid y;clear l Q hp u ht s B k M y;go_wp2_with fail;go_region_held3 (λW=>W.rangeAt gc (1+n*16) aq/\W.there gc (1+(n+1)*16) 16)
    (first
     | (refine⟨(World.rangeAt_drew _ _ _ _).2 ?_,(World.there_drew _ _ _ _).2 ?_⟩ <;> assumption)
     | (go_split_ands;exact⟨EN (by assumption) (by assumption),rJ (by assumption) (by assumption)⟩)
     | (go_split_ands;exact⟨World.rangeAt_setCells_apart (by assumption) _ _ _ (by omega),World.there_setCells (by assumption) _ _ _⟩))
    (first
     | (go_at_call 239;refine D.out.mono ?_;rintro _ o ⟨rfl,a⟩))
   have k7:=a;have ak:w.heap.size<=o.heap.size:=IU HK.out.size a.size;have A:=wN (g:=gc) d (1+(n+1)*16) o o (Wr.refl gc o);have aj:Kp w (o.setCells gc (1+(n+1)*16) d):=Below.trans (show Below w.heap.size w o from HK.out.drew.trans a) (A.below ak L);have H:(o.setCells gc (1+(n+1)*16) d).cell? ⟨gc,0,none⟩=some (.pointer (some ⟨f,0,none⟩)):=by
    rw[World.cell?_setCells_out gc _ _ _ _ (λ_ _=>.inl (by show 0<1+(n+1)*16;omega))];exact a.cell HP.out
   have F:(o.setCells gc (1+(n+1)*16) d).there gc 1 176:=World.there_setCells (rJ a ((World.there_drew _ _ _ _).2 R.out)) _ _ _;have an:=A.by (ar.out.drew.kp a) N;have I:dj (o.setCells gc (1+(n+1)*16) d) gc 1 (K.take (16*(n+1+1))):=by
    rw[<-HC.out,Ks (n+1) 16];exact dj.store (dj.kp (show dj wr.drew gc 1 _ from ax.out) a) (by rw[HL.out];exact rJ a ((World.there_drew _ _ _ _).2 R.out)) (by rw[HL.out];omega)
   generalize o.setCells gc (1+(n+1)*16) d=W8 at *;have av:=Lib.hid H;have ay:=Lib.hid I;have au:=Lib.hid F;clear H I F A;go_wp2_with(go_at_call 240;refine(HD.out _).mono ?_;rintro _ _ ⟨rfl,rfl⟩)
   go_roundw
   case rel=>exact⟨n+1,by omega,by go_num,rfl,av.out,ay.out,au.out,an,aj⟩
   case measure=>simp[intOf];omega
  ·obtain rfl:n=10:=by omega
   have ap:=HL.out;rw[Jm (by omega)] at u;go_wp2_with fail;go_ret;exact⟨⟨gc,f,rfl,⟨hp,u,s⟩,L,am⟩,B⟩
theorem rL (s K:List UInt8)(n:Nat):fk s (bW K n)=jJ s K n:=by
 unfold fk jJ tab;apply LL;intro i a;rw[fA (by simpa using a)]
theorem EU (K s:List UInt8)(n:Nat)(h:n+1<10):jJ (ii (eC (eV K s n))) K (n+1)=eV K s (n+1):=by
 rw[eV,qQ,if_pos h]
theorem EV (K s:List UInt8)(n:Nat)(h:¬n+1<10):jJ (eC (eV K s n)) K (n+1)=eV K s (n+1):=by
 rw[eV,qQ,if_neg h]
theorem EW (gc a E:Nat)(s K:List UInt8)(w:World)(R:s.length=16)(hK:K.length=176)(b:gc≠a)(g:E≠a)(M:Cph w gc E K)(A:By 231 w a s):
  Calls prog 206 #[.pointer (some ⟨gc,0,none⟩),.pointer (some ⟨a,0,none⟩)] w λe w'=>e=.returned (.tuple #[])/\By 231 w' a (iN K s)/\Wr a w w':=by
 have G:Hid (∀ n,n<=10->(bW K n).length=16):=λn I=>gC (by omega)
 have f:Hid (∀ W n,n<=10->Cph W gc E K->dj W gc (1+n*16) (bW K n)):=λW n I h=>by
  rw[Ks];exact h.rows.row (by omega)
 have O:=f.out w 0 (by omega) M;have x:Hid (∀ n,(eV K s n).length=16):=uJ K s;have o:=rI a gc 1 s (bW K 0) w R (G.out 0 (by omega)) b A O;rw[rL] at o;have j:Calls prog 241 #[.pointer (some ⟨a,0,none⟩),.pointer (some ⟨gc,1,none⟩)] w λe w'=>e=.returned (.tuple #[])/\By 231 w' a (eV K s 0)/\Wr a w w':=o
 clear o O;go_enter func206,ntmps206;go_wp2_with fail;refine j.mono ?_;rintro _ T ⟨rfl,z,v⟩;clear j A;go_wp2_with fail;go_loopw[11] (λp wr=>∃ n:Nat,n<=10/\p=.int .i64 n/\By 231 wr a (eV K s n)/\Wr a w wr) (λp _=>10 - (intOf p).toNat)
 case atStart=>exact⟨0,by omega,rfl,z,v⟩
 case round=>
  clear z v;obtain⟨n,I,rfl,A,C⟩:=hrel;by_cases S:n<10
  ·have X:(n:Int)<10:=by omega
   have V:(n:Int)+1<11:=by omega
   have U:(0:Int)<=(n:Int)+1:=by omega
   have Z:IntKind.i64.wrap ((n:Int)+1)=(n:Int)+1:=IA _ (by omega);have Y:((n:Int)+1).toNat=n+1:=by omega
   have i:=M.wr C b g;have D:=EG gc a E (eV K s n) wr (x.out n) b g i.ptr i.box A;by_cases N:n+1<10
   ·have m:=Lib.hid (EU K s n N)
    have Q:(n:Int)+1<10:=by omega
    generalize F:eV K s n=L at *;clear F;go_wp2_with fail;refine D.mono ?_;rintro _ w2 ⟨rfl,d,c⟩;have J:=EJ a (eC L) w2 (mZ L) d;go_wp2_with fail;refine J.mono ?_;rintro _ H ⟨rfl,y,u⟩;have r:=i.wr (c.trans u) b g;have q:=rI a gc (1+(n+1)*16) (ii (eC L)) (bW K (n+1)) H (EI _) (G.out (n+1) (by omega)) b y (f.out H (n+1) (by omega) r);rw[rL,m.out] at q;have B:=Lib.hid q;clear q D J d y;go_wp2_with fail;refine B.out.mono ?_;rintro _ P ⟨rfl,t,l⟩;have k:=((C.trans c).trans u).trans l;clear B;go_wp2_with fail;go_roundw
    case rel=>exact⟨n+1,by omega,by go_num,t,k⟩
    case measure=>simp[intOf];omega
   ·have m:=Lib.hid (EV K s n N)
    have Q:¬(n:Int)+1<10:=by omega
    generalize F:eV K s n=L at *;clear F;go_wp2_with fail;refine D.mono ?_;rintro _ w2 ⟨rfl,d,c⟩;have r:=i.wr c b g;have q:=rI a gc (1+(n+1)*16) (eC L) (bW K (n+1)) w2 (mZ _) (G.out (n+1) (by omega)) b d (f.out w2 (n+1) (by omega) r);rw[rL,m.out] at q;have B:=Lib.hid q;clear q D d;go_wp2_with fail;refine B.out.mono ?_;rintro _ P ⟨rfl,t,l⟩;have k:=(C.trans c).trans l;clear B;go_wp2_with fail;go_roundw
    case rel=>exact⟨n+1,by omega,by go_num,t,k⟩
    case measure=>simp[intOf];omega
  ·obtain rfl:n=10:=by omega
   go_wp2_with fail;go_end0
   exact⟨rfl,A,C⟩

import Derived.Test.YthmhklmkgkfcpaaGreatDoorX2
import Derived.RegionTactic
import Derived.BigRegion
import Derived.Deep.RegionWith
import Derived.Deep.MidRow
import Derived.Laws.CopyOwn
set_option linter.all false
set_option maxHeartbeats 8000000
set_option maxRecDepth 100000
namespace Go.Proofs.YthmhklmkgkfcpaaGreatDoor
open Go.Proofs.Tryz Go.RowKit
variable {A B w w':World}{K key l t:List UInt8}{T e:TypeId}{a b c g gc k n o:Nat}
structure yk (p:Prop):Prop where
 out:p
theorem later {G p:Prop}(ways:yk G->p)(rest:yk G):p:=ways rest
structure Wr (g:Nat)(A B:World):Prop where
 os:B.os=A.os
 tape:B.tape=A.tape
 output:B.output=A.output
 size:A.heap.size<=B.heap.size
 block:∀ k,k<A.heap.size->k≠g->B.heap[k]?=A.heap[k]?
theorem Wr.refl (g:Nat)(A:World):Wr g A A:=⟨rfl,rfl,rfl,JO _,λ_ _ _=>rfl⟩
theorem Wr.trans {C:World}(h:Wr g A B)(k:Wr g B C):Wr g A C:=
 ⟨k.os.trans h.os,k.tape.trans h.tape,k.output.trans h.output,Kd h.size k.size,λi b a=>(k.block i (JV b h.size) a).trans (h.block i b a)⟩
theorem Wr.of_kp (h:Kp A B):Wr g A B:=⟨h.os,h.tape,h.output,h.size,λk a _=>h.block k a⟩
theorem Wr.setCell (h:Wr g A B)(i:Nat)(v:Value):Wr g A (B.setCell ⟨g,i,none⟩ v):=
 ⟨h.os,h.tape,h.output,by simpa using h.size,λk b a=>(Below.heap_setCell B ⟨g,i,none⟩ v k a).trans (h.block k b a)⟩
theorem Wr.drew (h:Wr g A B):Wr g A B.drew:=h.trans (Wr.of_kp (NQ B).drew)
theorem Wr.below (h:Wr g A B)(a:n<=A.heap.size)(c:n<=g):Below n A B:=
 ⟨h.os,h.tape,h.output,h.size,λk b=>h.block k (by omega) (by omega)⟩
theorem Wr.cell (h:Wr g A B){p:Addr}{v:Value}(a:A.cell? p=some v)(b:p.block≠g):B.cell? p=some v:=
 (Mc (w:=A) (h.block p.block (Kl A p a) b)).trans a
theorem Wr.by (h:Wr g A B)(a:By T A k l)(b:k≠g):By T B k l:=(h.block k a.lt b).trans a
theorem By.drew (h:By T w g l):By T w.drew g l:=h
theorem By.made (T:TypeId)(w:World)(cs:Array Value)(l:List UInt8)(h:cs=bF l):By T (w.alloc (.cells cs T)) w.heap.size l:=by
 subst h;exact By.new T w l
def dQ (w:World)(b o:Nat)(l:List UInt8):Prop:=∀ i,i<l.length->w.cell? ⟨b,o+i,none⟩=some (.int .u8 ((l.getD i 0).toNat:Int))
theorem dQ.wr (h:dQ A b o l)(k:Wr g A B)(c:b≠g):dQ B b o l:=λi a=>k.cell (h i a) c
theorem dQ.kp (h:dQ A b o l)(k:Kp A B):dQ B b o l:=λi a=>k.cell (h i a)
theorem qf (A B:List UInt8)(i j:Nat)(h:A.length=B.length)(c:i<=A.length)(b:i<=j):(aM A B i).getD j 0=A.getD j 0:=by
 unfold aM;have a:(B.take i).length=i:=by simp;omega
 rw[JF,Kn (by omega),a,MA,JF,show i+(j - i)=j by omega]
def fR (s r:List UInt8):List UInt8:=tab 16 λi=>s.getD i 0 ^^^ r.getD i 0
theorem qg (s r:List UInt8):(fR s r).length=16:=ft _ _
theorem yl (n:Nat)(f:Nat->UInt8)(i:Nat)(h:i<n):(tab n f)[i]?=some (f i):=by simp[tab,h]
theorem sT (b k o:Nat)(s r:List UInt8)(w:World)(d:s.length=16)(A:r.length=16)(j:k≠b)(a:By 231 w b s)(m:dQ w k o r):
  Calls prog 241 #[.pointer (some ⟨b,0,none⟩),.pointer (some ⟨k,o,none⟩)] w λe w'=>e=.returned (.tuple #[])/\By 231 w' b (fR s r)/\Wr b w w':=by
 have u:Hid (∀ i,i<16->(aM s (fR s r) i).set i (s.getD i 0 ^^^ r.getD i 0)=aM s (fR s r) (i+1)):=λi f=>
  io _ _ i (by rw[qg,d]) (by rw[d];exact f) _ (yl 16 _ i f)
 have x:Hid (∀ i,i<16->(aM s (fR s r) i).getD i 0=s.getD i 0):=λi f=>qf _ _ i i (by rw[qg,d]) (by omega) (JO _)
 have v:Hid (∀ i,i<=16->(aM s (fR s r) i).length=16):=λi f=>by rw[fX _ _ i (by rw[qg,d]) (by omega),d]
 have y:Hid (aM s (fR s r) 16=fR s r):=jG _ _ (by rw[qg,d]);have g:By 231 w b (aM s (fR s r) 0):=by rw[show aM s (fR s r) 0=s by simp[aM]];exact a
 generalize n:aM s (fR s r)=M at *;generalize fR s r=X at *;clear n a;go_enter func241,ntmps241;go_wp2_with fail;go_loopw[5] (λp wr=>∃ i:Nat,i<=16/\p=.int .i64 i/\By 231 wr b (M i)/\Wr b w wr) (λp _=>16 - (intOf p).toNat)
 case atStart=>exact⟨0,by omega,rfl,g,Wr.refl _ _⟩
 case round=>
  clear g;obtain⟨i,f,rfl,a,h⟩:=hrel;by_cases c:i<16
  ·have B:(i:Int)<16:=by omega
   have q:=a.cell i (by rw[v.out i f];exact c);have C:=a.frozen i;rw[x.out i c] at q;have D:=(m.wr h j) i (by omega);have z:=cz (s.getD i 0) (r.getD i 0);have l:=u.out i c;generalize s.getD i 0=U at *;generalize r.getD i 0=V at *;generalize U ^^^ V=Z at *;have t:=JE l;clear l;go_wp2_with fail;go_region
   all_goals
    go_wp2_with fail;go_roundw
    case rel=>exact⟨i+1,by omega,by go_num,(a.set i _ t.out).drew,(h.setCell i _).drew⟩
    case measure=>simp[intOf];omega
  ·obtain rfl:i=16:=by omega
   rw[y.out] at a;go_wp2_with fail;go_end0
   exact⟨rfl,a,h⟩
theorem Fs:∀ i,i<16->(5*i) % 16=jQ i:=by
 have:∀ i:Fin 16,(5*i.1) % 16=jQ i.1:=by decide
 exact λi a=>this ⟨i,a⟩
theorem ma (s:List UInt8):(cT s).length=16:=ft _ _
theorem Fu (gc b v:Nat)(s:List UInt8)(w:World)(d:s.length=16)(q:gc≠b)(r:v≠b)(A:w.cell? ⟨gc,0,none⟩=some (.pointer (some ⟨v,0,none⟩)))(z:By 283 w v fQ)(a:By 231 w b s):
  Calls prog 242 #[.pointer (some ⟨gc,0,none⟩),.pointer (some ⟨b,0,none⟩)] w λe w'=>e=.returned (.tuple #[])/\By 231 w' b (cT s)/\Wr b w w':=by
 have K:Hid (∀ i,i<16->(aM s (cT s) i).set i (bY (s.getD (jQ i) 0))=aM s (cT s) (i+1)):=λi j=>
  io _ _ i (by rw[ma,d]) (by rw[d];exact j) _ (yl 16 _ i j)
 have L:Hid (∀ i,i<=16->(aM s (cT s) i).length=16):=λi j=>by rw[fX _ _ i (by rw[ma,d]) (by omega),d]
 have N:Hid (aM s (cT s) 16=cT s):=jG _ _ (by rw[ma,d]);have C:aM s (cT s) 0=s:=by simp[aM]
 generalize I:aM s (cT s)=M at *;generalize cT s=X at *;have O:=JE C;clear I C;go_enter func242,ntmps242;go_wp2_with(first
  | (refine qe underlying231 (by kernel_rfl) rfl (.tmp 7) rfl b s rfl a d ?_)
  | (refine sS (by kernel_rfl) rfl rfl (.tmp 4) (.tmp 8) rfl w.heap.size (List.replicate 16 0) s rfl rfl (By.made _ _ _ _ rfl) (by decide) d ?_;intro x H c))
 have k:Kp w x:=c.below ((NQ w).alloc _) (JO _);have G:b<w.heap.size:=a.lt;have g:=a.kp k;have u:=k.cell A;have t:=z.kp k;rw[<-O.out] at g;clear c a A z;have l:w.heap.size≠b:=by omega
 go_loopw[9] (λp wr=>∃ i:Nat,i<=16/\p=.int .i64 i/\By 231 wr b (M i)/\Wr b x wr) (λp _=>16 - (intOf p).toNat)
 case atStart=>exact⟨0,by omega,rfl,g,Wr.refl _ _⟩
 case round=>
  clear g;obtain⟨i,j,rfl,a,h⟩:=hrel;by_cases f:i<16
  ·have V:(i:Int)<16:=by omega
   have W:=a.cell i (by rw[L.out i j];exact f);have Y:=a.frozen i;have c1:=h.cell u q;obtain⟨m,o⟩:∃ m,jQ i=m:=⟨_,rfl⟩
   have B:=Fs i f;rw[o] at B;have y:m<16:=by omega
   have c2:=(h.by H l).cell m (by omega);have n:=K.out i f;rw[o] at n;have J:=(h.by t r).cell (s.getD m 0).toNat (by rw[og];exact dx _);rw[pZ] at J;have E:=dx (s.getD m 0);have F:((s.getD m 0).toNat:Int)<256:=by omega
   generalize s.getD m 0=U at *;generalize bY U=Z at *;have D:=JE n;have T:IntKind.i64.wrap (5*(i:Int))=5*(i:Int):=JI _ (by omega);have S:(5*(i:Int)).tmod 16=(m:Int):=by rw[Kv (by omega)];omega
   have R:(5*(i:Int)) % 16=(m:Int):=by omega
   have Q:(m:Int)<16:=by omega
   have P:0<=(m:Int):=by omega
   clear n o B;go_wp2_with fail;go_region
   all_goals
    go_wp2_with fail;go_roundw
    case rel=>exact⟨i+1,by omega,by go_num,by first|exact a.set i _ D.out|exact(a.set i _ D.out).drew,by first|exact h.setCell i _|exact(h.setCell i _).drew⟩
    case measure=>simp[intOf];omega
  ·obtain rfl:i=16:=by omega
   rw[N.out] at a;go_wp2_with fail;go_end0
   exact⟨rfl,a,(Wr.of_kp k).trans h⟩
theorem qj (a b c d:UInt8):ez a b c d=a ^^^ (a ^^^ b ^^^ c ^^^ d ^^^ bd (a ^^^ b) 2):=by
 unfold ez;rw[show(3:UInt8)=1 ^^^ 2 by decide,rO,vW,CK];have:∀ x y z aa v w:UInt8,x ^^^ (y ^^^ z) ^^^ aa ^^^ v=w ^^^ (w ^^^ y ^^^ aa ^^^ v ^^^ (x ^^^ z)):=by
  intro x y z aa v w;have e:w ^^^ (w ^^^ y ^^^ aa ^^^ v ^^^ (x ^^^ z))=(w ^^^ w) ^^^ (x ^^^ (y ^^^ z) ^^^ aa ^^^ v):=by ac_rfl
  rw[e,UInt8.xor_self,UInt8.zero_xor]
 exact this _ _ _ _ _ _
theorem Fv (a b c d:UInt8):ez b c d a=b ^^^ (a ^^^ b ^^^ c ^^^ d ^^^ bd (b ^^^ c) 2)/\ez c d a b=c ^^^ (a ^^^ b ^^^ c ^^^ d ^^^ bd (c ^^^ d) 2)/\ez d a b c=d ^^^ (a ^^^ b ^^^ c ^^^ d ^^^ bd (d ^^^ a) 2):=by
 rw[qj,qj,qj,show b ^^^ c ^^^ d ^^^ a=a ^^^ b ^^^ c ^^^ d by ac_rfl,show c ^^^ d ^^^ a ^^^ b=a ^^^ b ^^^ c ^^^ d by ac_rfl,show d ^^^ a ^^^ b ^^^ c=a ^^^ b ^^^ c ^^^ d by ac_rfl];exact⟨rfl,rfl,rfl⟩
theorem ql (l:List UInt8)(i j:Nat)(x:UInt8)(a:i<l.length):(l.set i x).getD j 0=if j=i then x else l.getD j 0:=by
 by_cases e:j=i
 ·subst e
  simp[JF,a]
 ·rw[if_neg e]
  simp[JF,MX,NK e]
def iA (t:List UInt8)(i:Nat)(l:List UInt8):Prop:=l.length=16/\∀ m,m<16->l.getD m 0=if m<i then (dE t).getD m 0 else t.getD m 0
theorem iA.begin (h:t.length=16):iA t 0 t:=⟨h,λm _=>by rw[if_neg (by omega)]⟩
theorem om (t:List UInt8)(n k:Nat)(b:n<4)(a:k<4):(dE t).getD (4*n+k) 0=ez (t.getD (4*n+k) 0) (t.getD (4*n+(k+1) % 4) 0) (t.getD (4*n+(k+2) % 4) 0) (t.getD (4*n+(k+3) % 4) 0):=by
 unfold dE;rw[iT 16 _ (4*n+k) (by omega)];unfold at4;rw[show(4*n+k) / 4=n by omega,show(4*n+k) % 4=k by omega,Mj,Lo a]
theorem iA.next (h:iA t (4*n) l)(g:n<4)(a b c d:UInt8)(y:t.getD (4*n) 0=a)(x:t.getD (4*n+1) 0=b)(w:t.getD (4*n+2) 0=c)(v:t.getD (4*n+3) 0=d):
  iA t (4*(n+1)) ((((l.set (4*n) (ez a b c d)).set (4*n+1) (ez b c d a)).set (4*n+2) (ez c d a b)).set (4*n+3) (ez d a b c)):=by
 obtain⟨f,z⟩:=h;refine⟨by simp[f],λm u=>?_⟩;have o:=om t n 0 g (by omega);have k:=om t n 1 g (by omega);have j:=om t n 2 g (by omega);have i:=om t n 3 g (by omega);simp only[Mj,Lf,Nat.reduceAdd,Nat.reduceMod,y,x,w,v] at o k j i;rw[ql _ _ _ _ (by simp[f];omega),ql _ _ _ _ (by simp[f];omega),ql _ _ _ _ (by simp[f];omega),ql _ _ _ _ (by rw[f];omega),z m u];by_cases p:m=4*n+3
 ·subst p;rw[if_pos rfl,if_pos (by omega),i]
 ·rw[if_neg p]
  by_cases q:m=4*n+2
  ·subst q;rw[if_pos rfl,if_pos (by omega),j]
  ·rw[if_neg q]
   by_cases r:m=4*n+1
   ·subst r;rw[if_pos rfl,if_pos (by omega),k]
   ·rw[if_neg r]
    by_cases s:m=4*n
    ·subst s;rw[if_pos rfl,if_pos (by omega),o]
    ·rw[if_neg s]
     by_cases e:m<4*n
     ·rw[if_pos e,if_pos (by omega)]
     ·rw[if_neg e,if_neg (by omega)]
theorem iA.all (h:iA t (4*4) l):l=dE t:=
 lI 16 _ _ h.1 (ft _ _) λi a=>by rw[h.2 i a,if_pos (by omega)]
theorem ym (t:List UInt8):(dE t).length=16:=ft _ _
theorem Fw (n:Nat)(f:Nat->UInt8)(i:Nat)(h:i<n):(tab n f)[i]?=some (f i):=by simp[tab,h]
theorem qm (A:List UInt8)(n:Nat)(f:Nat->UInt8)(i:Nat)(h:A.length=n)(a:i<n):(aM A (tab n f) i).set i (f i)=aM A (tab n f) (i+1):=
 io _ _ i (by rw[h,ft]) (by omega) _ (Fw n f i a)
theorem qo (A:List UInt8)(n:Nat)(f:Nat->UInt8)(i:Nat)(h:A.length=n)(a:i<=n):(aM A (tab n f) i).length=n:=by
 rw[fX _ _ i (by rw[h,ft]) (by omega),h]
theorem oo (A:List UInt8)(n:Nat)(f:Nat->UInt8)(h:A.length=n):aM A (tab n f) n=tab n f:=by
 have:=jG A (tab n f) (by rw[h,ft]);rwa [ft] at this
theorem mb (A B:List UInt8):aM A B 0=A:=by simp[aM]
theorem sU {B:Nat}(h:Ow e w B (.slice (some ⟨g,0,none⟩) n c) l)(i:Nat)(a:i<l.length)(x:UInt8):
  w.cell? ⟨g,i,none⟩=some (.int .u8 ((l.getD i 0).toNat:Int))/\w.frozen? ⟨g,i,none⟩=false/\Ow e (w.setCell ⟨g,i,none⟩ (.int .u8 (x.toNat:Int))) B (.slice (some ⟨g,0,none⟩) n c) (l.set i x):=by
 have b:n=l.length:=by
  rcases h.shape with⟨h0,h1⟩|⟨g',c',h0,_⟩
  ·cases h0
  ·simp only[JR] at h0;exact h0.2.1
 subst b;refine⟨?_,h.frozenAt i,?_⟩
 ·rw[World.ownsRow.cellAt h i (by omega),gC l i a,JF,JG a]
  rfl
 ·have d:=(World.ownsRow.stored h i (.int .u8 (x.toNat:Int))).1
  unfold Ow;rw[Km];have e:Lib.byteCells (l.set i x)=(Lib.byteCells l).set i (.int .u8 (x.toNat:Int)):=by simp[Lib.byteCells,List.map_set]
  rw[e];simpa using d
theorem Ow.aside {B:Nat}(h:Ow e w B (.slice (some ⟨g,0,none⟩) n c) l)(j:k≠g)(i:Nat)(v:Value):Ow e (w.setCell ⟨k,i,none⟩ v) B (.slice (some ⟨g,0,none⟩) n c) l:=by
 refine⟨h.1,?_⟩;rcases h.2 with f|⟨r,d,b,a,o,m,rest⟩
 ·exact .inl f
 ·have q:=a
  simp only[JR,Ky,Lv] at a;obtain⟨⟨rfl,_⟩,_⟩:=a;exact .inr ⟨g,d,b,q,o,(Below.heap_setCell w ⟨k,i,none⟩ v g (λp=>j p.symm)).trans m,rest⟩
theorem By.ow5 {B:Nat}(h:By e w g l)(b:B<=g)(a:n=l.length)(c:n<=1000000):Ow e w B (.slice (some ⟨g,0,none⟩) n n) l:=by
 subst a;exact⟨by rw[cO];simp,.inr ⟨g,l.length,_,rfl,b,h,JO _,by unfold maxLen;omega,by simp[Lib.byteCells],by rw[NB,List.toList_toArray];exact Ku (by rw[cO];exact JO _)⟩⟩
theorem sV (c r k m j:Nat)(x:Int)(b:x=(k:Int))(h:c<4)(d:r<4)(f:k<4)(e:(r+k) % 4=m)(g:4*c+m=j):
  IntKind.i64.wrap ((r:Int)+x)=(r:Int)+x/\((r:Int)+x).tmod 4=(m:Int)/\((r:Int)+x) % 4=(m:Int)/\4*(c:Int)+(m:Int)=(j:Int)/\IntKind.i64.wrap (j:Int)=j/\(j:Int)<16/\j<16:=by
 have a:m<4:=by omega
 refine⟨JI _ (by omega),?_,by omega,by omega,JI _ (by omega),by omega,by omega⟩;rw[Kv (by omega)];omega
theorem Fx (c r i:Nat)(d:c<4)(a:r<4)(b:4*c+r=i):
  IntKind.i64.wrap (4*(c:Int))=4*(c:Int)/\4*(c:Int)+(r:Int)=(i:Int)/\IntKind.i64.wrap (i:Int)=i/\(i:Int)<16/\i<16:=
 ⟨JI _ (by omega),by omega,JI _ (by omega),by omega,by omega⟩
theorem Fy (c r:Nat)(b:c<4)(a:r<4):4*((c+r) % 4)+r=jQ (4*c+r):=by
 unfold jQ
 rw[show(4*c+r) / 4=c by omega,show(4*c+r) % 4=r by omega]
theorem Fz (vw vb:Value)(K b:List UInt8)(bx:Nat)(w:World)(hw:Rd w vw K)(hK:K.length=176)(hX:By 5 w bx fQ)(hb:Rd w vb b)(aO:b.length=16):
  Calls prog 189 #[vw,.slice (some ⟨bx,0,none⟩) 256 256,vb] w λe w'=>(∃ r,e=.returned r/\Ow 5 w' w.heap.size r (eA K b))/\Kp w w':=by
 have U:=aj;obtain⟨aw,cw,rfl,h1,h2⟩:=hw.shape;obtain⟨ab,cb,rfl,h3,h4⟩:=hb.shape;rw[hK] at hw h1 ⊢;rw[aO] at hb h3 ⊢;obtain⟨gw,ba,rfl,aI,aL⟩:=hw.at 0 (by omega);obtain⟨gb,ob,rfl,bc,aN⟩:=hb.at 0 (by omega);have HW:=JE aL;have HB:=JE aN;have HX:=JE hX;have be:=hX.lt;clear aL aN hX hw hb;have HR:Hid ((List.replicate 16 (0:UInt8)).length=16):=Lb;have HL:Hid (dF K b 10=eA K b):=rfl;have a6:Hid (tab 16 (λi=>b.getD i 0 ^^^ K.getD (16*0+i) 0)=dF K b 0):=rfl;go_enter func189,ntmps189;go_wp2_with(at_make;refine jk (z:=.int .u8 0) (b:=1) underlying24 Og rfl (by decide) rfl _ _ rfl 16 rfl rfl (by omega) ?_;intro w1 y;have E:By 5 w1 w.heap.size (List.replicate 16 0):=(by rw[y];exact By.fresh _ _ _);have k0:Kp w w1:=(by rw[y];exact(NQ _).alloc _);clear y)
 have ap:By 5 w1 w.heap.size (aM (List.replicate 16 0) (tab 16 (λi=>b.getD i 0 ^^^ K.getD (16*0+i) 0)) 0):=by rw[mb];exact E
 clear E;go_loopw[8] (λp wr=>∃ i:Nat,i<=16/\p=.int .i64 i/\By 5 wr w.heap.size (aM (List.replicate 16 0) (tab 16 (λi=>b.getD i 0 ^^^ K.getD (16*0+i) 0)) i)/\Kp w wr) (λp _=>16 - (intOf p).toNat)
 case atStart=>exact⟨0,by omega,rfl,ap,k0⟩
 case round=>
  clear ap k0;obtain⟨i,F,rfl,a,d⟩:=hrel;by_cases Q:i<16
  ·have q1:(i:Int)<16:=by omega
   have q2:(i:Int)<176:=by omega
   have hn:=qm (List.replicate 16 0) 16 (λi=>b.getD i 0 ^^^ K.getD (16*0+i) 0) i HR.out Q;have c0:=a.cell i (by rw[qo _ _ _ _ HR.out F];exact Q);have f0:=a.frozen i;have c1:=d.cell (HB.out i Q);have c2:=d.cell (HW.out i (by omega));have hx:=cz (b.getD i 0) (K.getD (16*0+i) 0);rw[show 16*0+i=i by omega] at hn hx;generalize hM:aM (List.replicate 16 0) (tab 16 (λi=>b.getD i 0 ^^^ K.getD (16*0+i) 0))=M at *;generalize b.getD i 0=Z at *;generalize K.getD i 0=X2 at *;generalize Z ^^^ X2=Y at *;have HN:=JE hn;clear hn hM;go_wp2_with fail;go_region
   all_goals
    go_wp2_with fail;go_roundw
    case rel=>exact⟨i+1,by omega,by go_num,a.set i _ HN.out,(Below.setCell d (p:=⟨w.heap.size,i,none⟩) (JO _) _).drew⟩
    case measure=>simp[intOf];omega
  ·obtain rfl:i=16:=by omega
   rw[oo _ _ _ HR.out,a6.out] at a;clear Q F;go_wp2_with fail;rw[show((16:Nat):Int)=(16:Int) from rfl];go_loopw[9] (λp wr=>∃ n:Nat,1<=n/\n<=11/\p=.int .i64 n/\By 5 wr w.heap.size (dF K b (n - 1))/\Kp w wr) (λp _=>11 - (intOf p).toNat)
   case atStart=>exact⟨1,by omega,by omega,rfl,a,d⟩
   case round=>
    clear a d;obtain⟨n,bf,hn,rfl,a,d⟩:=hrel;by_cases Q:n<=10
    ·have q1:(n:Int)<=10:=by omega
     have v:=rQ K b (n - 1);have aD:dF K b n=dW (if n<10 then dE (cT (dF K b (n - 1))) else cT (dF K b (n - 1))) K n:=by
      obtain⟨m,rfl⟩:∃ m,n=m+1:=⟨n - 1,by omega⟩;rfl
     have az:=JE aD;clear aD;generalize hS:dF K b (n - 1)=S at *;have aW:w.heap.size<wr.heap.size:=a.lt;clear hS;go_wp2_with(at_make;refine jk (z:=.int .u8 0) (b:=1) underlying24 Og rfl (by decide) rfl _ _ rfl 16 rfl rfl (by omega) ?_;intro w1 y;have ax:By 5 w1 wr.heap.size (List.replicate 16 0):=(by rw[y];exact By.fresh _ _ _);have aR:By 5 w1 w.heap.size S:=(by rw[y];exact a.kp ((NQ _).alloc _));have k1:Kp w w1:=(by rw[y];exact d.alloc _);have aE:wr.heap.size<w1.heap.size:=(by rw[y];simp);clear y)
     obtain⟨o,aJ⟩:∃ g,wr.heap.size=g:=⟨_,rfl⟩;rw[aJ] at ax aE aW ⊢;clear a d aJ;have ao:By 5 w1 o (aM (List.replicate 16 0) (cT S) (4*0)):=by rw[NJ,mb];exact ax
     clear ax;have bb:o≠w.heap.size:=by omega
     go_loopw[11] (λp wr=>∃ c:Nat,c<=4/\p=.int .i64 c/\By 5 wr o (aM (List.replicate 16 0) (cT S) (4*c))/\By 5 wr w.heap.size S/\Kp w wr) (λp _=>4 - (intOf p).toNat)
     case atStart=>exact⟨0,by omega,rfl,ao,aR,k1⟩
     case round=>
      clear ao aR k1 aE;obtain⟨c,au,rfl,u,a,d⟩:=hrel;by_cases l:c<4
      ·have qc:(c:Int)<4:=by omega
       go_wp2_with fail;go_loopw[12] (λp wr=>∃ r:Nat,r<=4/\p=.int .i64 r/\By 5 wr o (aM (List.replicate 16 0) (cT S) (4*c+r))/\By 5 wr w.heap.size S/\Kp w wr) (λp _=>4 - (intOf p).toNat)
       case atStart=>exact⟨0,by omega,rfl,u,a,d⟩
       case round=>
        clear u a d;obtain⟨r,aV,rfl,u,a,d⟩:=hrel;by_cases q:r<4
        ·have qr:(r:Int)<4:=by omega
         have ar:=Fy c r l q;obtain⟨i,F⟩:∃ i,4*c+r=i:=⟨_,rfl⟩;obtain⟨m,hm⟩:∃ m,(c+r) % 4=m:=⟨_,rfl⟩;obtain⟨p,hp⟩:∃ p,4*m+r=p:=⟨_,rfl⟩;rw[F,hm,hp] at ar;rw[F] at u;have D:i<16:=by omega
         have aF:p<16:=by omega
         have hn:=qm (List.replicate 16 0) 16 (λm=>bY (S.getD (jQ m) 0)) i HR.out D;rw[<-ar] at hn;have c0:=u.cell i (by unfold cT;rw[qo _ _ _ _ HR.out (by omega)];exact D);have f0:=u.frozen i;have c1:=a.cell p (by rw[v];exact aF);have c2:=(HX.out.kp d).cell (S.getD p 0).toNat (by rw[og];exact dx _);rw[pZ] at c2;have aU:=dx (S.getD p 0);have i6:((S.getD p 0).toNat:Int)<256:=by omega
         have i7:IntKind.i64.wrap ((S.getD p 0).toNat:Int)=((S.getD p 0).toNat:Int):=JI _ (by omega);have aH:(aM (List.replicate 16 0) (cT S) i).set i (bY (S.getD p 0))=aM (List.replicate 16 0) (cT S) (i+1):=hn;have aA:=JE (show 4*c+(r+1)=i+1 by omega);generalize aM (List.replicate 16 0) (cT S)=M at *;generalize S.getD p 0=Z at *;generalize bY Z=Y at *;have HN:=JE aH;have e1:IntKind.i64.wrap (4*(c:Int))=4*(c:Int):=JI _ (by omega);have e2:4*(c:Int)+(r:Int)=(i:Int):=by omega
         have e3:IntKind.i64.wrap (i:Int)=i:=JI _ (by omega);have e4:IntKind.i64.wrap ((c:Int)+(r:Int))=(c:Int)+(r:Int):=JI _ (by omega);have e5:((c:Int)+(r:Int)).tmod 4=(m:Int):=by rw[Kv (by omega)];omega
         have e6:((c:Int)+(r:Int)) % 4=(m:Int):=by omega
         have e7:IntKind.i64.wrap (4*(m:Int))=4*(m:Int):=JI _ (by omega);have e8:4*(m:Int)+(r:Int)=(p:Int):=by omega
         have e9:IntKind.i64.wrap (p:Int)=p:=JI _ (by omega);have u1:(i:Int)<16:=by omega
         have u2:(p:Int)<16:=by omega
         clear hn aH F hm hp ar aU;go_wp2_with fail;go_roundw
         case rel=>exact⟨r+1,by omega,by go_num,by rw[aA.out];exact u.set i _ HN.out,(Below.heap_setCell _ ⟨o,i,none⟩ _ w.heap.size (by show w.heap.size≠o;omega)).trans a,Below.setCell d (p:=⟨o,i,none⟩) (by show w.heap.size<=o;omega) _⟩
         case measure=>simp[intOf];omega
        ·obtain rfl:r=4:=by omega
         rw[show 4*c+4=4*(c+1) by omega] at u;go_wp2_with fail;go_roundw
         case rel=>exact⟨c+1,by omega,by go_num,u,a,d⟩
         case measure=>simp[intOf];omega
      ·obtain rfl:c=4:=by omega
       have al:By 5 wr o (cT S):=by
        have:=u;unfold cT at this ⊢;rw[oo _ _ _ HR.out] at this;exact this
       clear u l au;have f:=ma S;have J:=ym (cT S);have a9:=az;generalize aQ:cT S=T at *;have bg:=JE aQ;clear aQ;have aX:o<wr.heap.size:=al.lt;go_wp2_with(at_builtin;refine bw U rfl _ _ rfl wr.heap.size _ [] rfl (NT wr _ _ 0 #[] [] (JO _) rfl (by omega) rfl) _ T rfl ((al.rdAll (n:=16) (c:=16) (by rw[f]) (JO _) (by unfold maxLen;omega)).kp ((NQ _).alloc _)) (by rw[f];simp) (by simp) ?_;intro v2 w2 aG aK _)
       obtain⟨B,ay⟩:∃ B,wr.heap.size=B:=⟨_,rfl⟩;have H:Kp wr w2:=NS ((NQ wr).alloc _) aK (λk e=>by cases e;exact JO _);have L:=al.kp H;have x:=a.kp H;have ag:=d.trans H;have I:Ow 5 w2 B v2 T:=by rw[<-ay];simpa using aG
       rw[ay] at aX;clear aK aG al a d H;obtain⟨A,cu,rfl,z1,z2,z3,z4⟩:=qa I (by omega);rw[f] at I z3 ⊢;have aC:o≠A:=by omega
       have aT:w.heap.size≠A:=by omega
       clear ay;have aa:Ow 5 w2 B (.slice (some ⟨A,0,none⟩) 16 cu) (aM T (dE T) (4*0)):=by rw[NJ,mb];exact I
       clear I;by_cases am:n<10
       ·have qn:(n:Int)<10:=by omega
        go_loopw[14] (λp wr=>∃ c:Nat,c<=4/\p=.int .i64 c/\Ow 5 wr B (.slice (some ⟨A,0,none⟩) 16 cu) (aM T (dE T) (4*c))/\By 5 wr o T/\By 5 wr w.heap.size S/\Kp w wr) (λp _=>4 - (intOf p).toNat)
        case atStart=>exact⟨0,by omega,rfl,aa,L,x,ag⟩
        case round=>
         clear aa L x ag;obtain⟨c,au,rfl,t,u,a,d⟩:=hrel;by_cases l:c<4
         ·have qc:(c:Int)<4:=by omega
          go_wp2_with fail;go_loopw[15] (λp wr=>∃ r:Nat,r<=4/\p=.int .i64 r/\Ow 5 wr B (.slice (some ⟨A,0,none⟩) 16 cu) (aM T (dE T) (4*c+r))/\By 5 wr o T/\By 5 wr w.heap.size S/\Kp w wr) (λp _=>4 - (intOf p).toNat)
          case atStart=>exact⟨0,by omega,rfl,t,u,a,d⟩
          case round=>
           clear t u a d;obtain⟨r,aV,rfl,t,u,a,d⟩:=hrel;by_cases q:r<4
           ·have qr:(r:Int)<4:=by omega
            have an:=om T c r l q;have P:(aM T (dE T) (4*c+r)).set (4*c+r) ((dE T).getD (4*c+r) 0)=aM T (dE T) (4*c+r+1):=by
             refine io _ _ (4*c+r) (by rw[f,J]) (by omega) _ ?_;rw[JF,JG (by rw[J];omega)];rfl
            have aq:(aM T (dE T) (4*c+r)).length=16:=by rw[fX _ _ _ (by rw[f,J]) (by omega),f]
            rw[an] at P;obtain⟨m1,af⟩:∃ m,(r+1) % 4=m:=⟨_,rfl⟩;obtain⟨m2,ae⟩:∃ m,(r+2) % 4=m:=⟨_,rfl⟩;obtain⟨m3,ad⟩:∃ m,(r+3) % 4=m:=⟨_,rfl⟩;obtain⟨i,F⟩:∃ i,4*c+r=i:=⟨_,rfl⟩;obtain⟨C,ak⟩:∃ j,4*c+m1=j:=⟨_,rfl⟩;obtain⟨N,ai⟩:∃ j,4*c+m2=j:=⟨_,rfl⟩;obtain⟨X,ah⟩:∃ j,4*c+m3=j:=⟨_,rfl⟩;obtain⟨a1,bV,s1,b1,d1,u1,n1⟩:=sV c r 1 m1 C 1 rfl l q (by decide) af ak;obtain⟨a2,t2,s2,b2,d2,u2,n2⟩:=sV c r 2 m2 N 2 rfl l q (by decide) ae ai;obtain⟨a3,t3,s3,b3,d3,u3,n3⟩:=sV c r 3 m3 X 3 rfl l q (by decide) ad ah;obtain⟨e1,e2,e3,u0,D⟩:=Fx c r i l q F;rw[af,ae,ad] at P;rw[F] at aq t;rw[F,ak,ai,ah] at P;obtain⟨c0,f0,av⟩:=sU t i (by rw[aq];exact D) (ez (T.getD i 0) (T.getD C 0) (T.getD N 0) (T.getD X 0));rw[P] at av;have k0:=u.cell i (by rw[f];exact D);have k1:=u.cell C (by rw[f];exact n1);have k2:=u.cell N (by rw[f];exact n2);have k3:=u.cell X (by rw[f];exact n3);have x1:=cz (bd (T.getD i 0) 2) (bd (T.getD C 0) 3);have x2:=cz (bd (T.getD i 0) 2 ^^^ bd (T.getD C 0) 3) (T.getD N 0);have x3:=cz (bd (T.getD i 0) 2 ^^^ bd (T.getD C 0) 3 ^^^ T.getD N 0) (T.getD X 0);rw[show bd (T.getD i 0) 2 ^^^ bd (T.getD C 0) 3 ^^^ T.getD N 0 ^^^ T.getD X 0=ez (T.getD i 0) (T.getD C 0) (T.getD N 0) (T.getD X 0) from rfl] at x3;have a4:Hid (∀ W,Calls prog 228 #[.int .u8 ((T.getD i 0).toNat:Int),.int .u8 2] W λe w'=>e=.returned (.int .u8 ((bd (T.getD i 0) 2).toNat:Int))/\W=w'):=λW=>pV (T.getD i 0) 2 W
            have a0:Hid (∀ W,Calls prog 228 #[.int .u8 ((T.getD C 0).toNat:Int),.int .u8 3] W λe w'=>e=.returned (.int .u8 ((bd (T.getD C 0) 3).toNat:Int))/\W=w'):=λW=>pV (T.getD C 0) 3 W
            have aA:=JE (show 4*c+(r+1)=i+1 by rw[<-F];rfl);have aI:w.heap.size<=A:=by clear af ae ad ak ai ah s1 s2 s3 bV t2 t3;omega
            generalize ez (T.getD i 0) (T.getD C 0) (T.getD N 0) (T.getD X 0)=Y at *;generalize (aM T (dE T) i).getD i 0=Y0 at *;generalize bd (T.getD i 0) 2 ^^^ bd (T.getD C 0) 3 ^^^ T.getD N 0=Y2 at *;generalize bd (T.getD i 0) 2 ^^^ bd (T.getD C 0) 3=Y1 at *;generalize bd (T.getD i 0) 2=D1 at *;generalize bd (T.getD C 0) 3=D2 at *;generalize T.getD i 0=X0 at *;generalize T.getD C 0=Z at *;generalize T.getD N 0=X2 at *;generalize T.getD X 0=X3 at *;have O:∀ j V,wr.cell? ⟨o,j,none⟩=some V->((wr.setCell ⟨A,i,none⟩ (.int .u8 (Y.toNat:Int))).drew).cell? ⟨o,j,none⟩=some V:=λj V h=>(yg (Below.heap_setCell wr ⟨A,i,none⟩ (.int .u8 (Y.toNat:Int)) o aC) j).trans h
            have KD:Hid (wr.drew.cell? ⟨o,i,none⟩=some (.int .u8 (X0.toNat:Int))/\wr.drew.cell? ⟨o,C,none⟩=some (.int .u8 (Z.toNat:Int))/\wr.drew.cell? ⟨o,N,none⟩=some (.int .u8 (X2.toNat:Int))/\wr.drew.cell? ⟨o,X,none⟩=some (.int .u8 (X3.toNat:Int))):=⟨k0,k1,k2,k3⟩;have KS:=JE (JN (O _ _ k0) (JN (O _ _ k1) (JN (O _ _ k2) (O _ _ k3))));have L:By 5 ((wr.setCell ⟨A,i,none⟩ (.int .u8 (Y.toNat:Int))).drew) o T:=(Below.heap_setCell wr ⟨A,i,none⟩ _ o aC).trans u;have x:By 5 ((wr.setCell ⟨A,i,none⟩ (.int .u8 (Y.toNat:Int))).drew) w.heap.size S:=(Below.heap_setCell wr ⟨A,i,none⟩ _ w.heap.size aT).trans a;have H:Kp w ((wr.setCell ⟨A,i,none⟩ (.int .u8 (Y.toNat:Int))).drew):=(Below.setCell d (p:=⟨A,i,none⟩) aI _).drew;have aP:Ow 5 ((wr.setCell ⟨A,i,none⟩ (.int .u8 (Y.toNat:Int))).drew) B (.slice (some ⟨A,0,none⟩) 16 cu) (aM T (dE T) (i+1)):=av;clear F ak ai ah af ae ad P aq an t av u a d O;have aZ:=JE L;have a8:=JE x;have a7:=JE H;have aY:=JE aP;clear L x H aP;go_wp2_with fail;go_region_held3 (λW=>W.cell? ⟨o,i,none⟩=some (.int .u8 (X0.toNat:Int))/\W.cell? ⟨o,C,none⟩=some (.int .u8 (Z.toNat:Int))/\W.cell? ⟨o,N,none⟩=some (.int .u8 (X2.toNat:Int))/\W.cell? ⟨o,X,none⟩=some (.int .u8 (X3.toNat:Int)))
             (first
              | (with_reducible exact KD.out)
              | (with_reducible exact KS.out))
             (first
              | (go_at_call 228;(with_reducible refine(a4.out _).mono ?_);rintro _ _ ⟨rfl,rfl⟩)
              | (go_at_call 228;(with_reducible refine(a0.out _).mono ?_);rintro _ _ ⟨rfl,rfl⟩))
            all_goals
             go_wp2_with fail;go_roundw
             case rel=>exact⟨r+1,by omega,by go_num,by rw[aA.out];exact aY.out,aZ.out,a8.out,a7.out⟩
             case measure=>simp[intOf];omega
           ·obtain rfl:r=4:=by omega
            rw[show 4*c+4=4*(c+1) by omega] at t;go_wp2_with fail;go_roundw
            case rel=>exact⟨c+1,by omega,by go_num,t,u,a,d⟩
            case measure=>simp[intOf];omega
         ·obtain rfl:c=4:=by omega
          rw[show 4*4=16 from rfl,show dE T=tab 16 (λm=>ez (at4 T m 0) (at4 T m 1) (at4 T m 2) (at4 T m 3)) from rfl,oo _ _ _ f,show tab 16 (λm=>ez (at4 T m 0) (at4 T m 1) (at4 T m 2) (at4 T m 3))=dE T from rfl] at t;have R:=JE J;generalize dE T=V at *;clear l au u;go_wp2_with fail;rw[show((4:Nat):Int)=(4:Int) from rfl];have E:By 5 wr w.heap.size (aM S (dW V K n) 0):=by rw[mb];exact a
          go_loopw[16] (λp wr=>∃ i:Nat,i<=16/\p=.int .i64 i/\By 5 wr w.heap.size (aM S (dW V K n) i)/\Ow 5 wr B (.slice (some ⟨A,0,none⟩) 16 cu) V/\Kp w wr) (λp _=>16 - (intOf p).toNat)
          case atStart=>exact⟨0,by omega,rfl,E,t,d⟩
          case round=>
           clear a E t d;obtain⟨i,F,rfl,a,t,d⟩:=hrel;by_cases s:i<16
           ·have qi:(i:Int)<16:=by omega
            have G:(aM S (dW V K n) i).set i (V.getD i 0 ^^^ K.getD (16*n+i) 0)=aM S (dW V K n) (i+1):=qm S 16 (λi=>V.getD i 0 ^^^ K.getD (16*n+i) 0) i v s;have c0:=a.cell i (by rw[show dW V K n=tab 16 (λi=>V.getD i 0 ^^^ K.getD (16*n+i) 0) from rfl,qo _ _ _ _ v F];exact s);have f0:=a.frozen i;have c1:=(sU t i (by rw[R.out];exact s) 0).1;obtain⟨j,hj⟩:∃ j,16*n+i=j:=⟨_,rfl⟩;have c2:=d.cell (HW.out j (by omega));rw[hj] at G;have hx:=cz (V.getD i 0) (K.getD j 0);generalize hM:aM S (dW V K n)=M at *;generalize V.getD i 0=Z at *;generalize K.getD j 0=X2 at *;generalize Z ^^^ X2=Y at *;have aB:=JE G;have e1:IntKind.i64.wrap (16*(n:Int))=16*(n:Int):=JI _ (by omega);have e2:16*(n:Int)+(i:Int)=(j:Int):=by omega
            have e3:IntKind.i64.wrap (j:Int)=j:=JI _ (by omega);have u1:(j:Int)<176:=by omega
            clear G hM hj;go_wp2_with fail;go_region
            all_goals
             go_wp2_with fail;go_roundw
             case rel=>exact⟨i+1,by omega,by go_num,a.set i _ aB.out,(t.aside (k:=w.heap.size) (by omega) i _).kp (NQ _).drew,(Below.setCell d (p:=⟨w.heap.size,i,none⟩) (JO _) _).drew⟩
             case measure=>simp[intOf];omega
           ·obtain rfl:i=16:=by omega
            have x:By 5 wr w.heap.size (dF K b (n+1 - 1)):=by
             rw[show n+1 - 1=n by omega,az.out];have:=a;rw[show dW V K n=tab 16 (λi=>V.getD i 0 ^^^ K.getD (16*n+i) 0) from rfl,oo _ _ _ v] at this;rw[if_pos am];exact this
            clear a t;go_wp2_with fail;go_roundw
            case rel=>exact⟨n+1,by omega,by omega,by go_num,x,d⟩
            case measure=>simp[intOf];omega
       ·have qn:¬(n:Int)<10:=by omega
        go_loopw[14] (λp wr=>p=.int .i64 0/\Ow 5 wr B (.slice (some ⟨A,0,none⟩) 16 cu) (aM T (dE T) (4*0))/\By 5 wr w.heap.size S/\Kp w wr) (λp _=>0)
        case atStart=>exact⟨rfl,aa,x,ag⟩
        case round=>
         clear aa L x ag;obtain⟨rfl,t,a,d⟩:=hrel;rw[NJ,mb] at t;have R:=JE f;go_wp2_with fail;have E:By 5 wr w.heap.size (aM S (dW T K n) 0):=by rw[mb];exact a
         go_loopw[16] (λp wr=>∃ i:Nat,i<=16/\p=.int .i64 i/\By 5 wr w.heap.size (aM S (dW T K n) i)/\Ow 5 wr B (.slice (some ⟨A,0,none⟩) 16 cu) T/\Kp w wr) (λp _=>16 - (intOf p).toNat)
         case atStart=>exact⟨0,by omega,rfl,E,t,d⟩
         case round=>
          clear a E t d;obtain⟨i,F,rfl,a,t,d⟩:=hrel;by_cases s:i<16
          ·have qi:(i:Int)<16:=by omega
           have G:(aM S (dW T K n) i).set i (T.getD i 0 ^^^ K.getD (16*n+i) 0)=aM S (dW T K n) (i+1):=qm S 16 (λi=>T.getD i 0 ^^^ K.getD (16*n+i) 0) i v s;have c0:=a.cell i (by rw[show dW T K n=tab 16 (λi=>T.getD i 0 ^^^ K.getD (16*n+i) 0) from rfl,qo _ _ _ _ v F];exact s);have f0:=a.frozen i;have c1:=(sU t i (by rw[R.out];exact s) 0).1;obtain⟨j,hj⟩:∃ j,16*n+i=j:=⟨_,rfl⟩;have c2:=d.cell (HW.out j (by omega));rw[hj] at G;have hx:=cz (T.getD i 0) (K.getD j 0);generalize hM:aM S (dW T K n)=M at *;generalize T.getD i 0=Z at *;generalize K.getD j 0=X2 at *;generalize Z ^^^ X2=Y at *;have aB:=JE G;have e1:IntKind.i64.wrap (16*(n:Int))=16*(n:Int):=JI _ (by omega);have e2:16*(n:Int)+(i:Int)=(j:Int):=by omega
           have e3:IntKind.i64.wrap (j:Int)=j:=JI _ (by omega);have u1:(j:Int)<176:=by omega
           clear G hM hj;go_wp2_with fail;go_region
           all_goals
            go_wp2_with fail;go_roundw
            case rel=>exact⟨i+1,by omega,by go_num,a.set i _ aB.out,(t.aside (k:=w.heap.size) (by omega) i _).kp (NQ _).drew,(Below.setCell d (p:=⟨w.heap.size,i,none⟩) (JO _) _).drew⟩
            case measure=>simp[intOf];omega
          ·obtain rfl:i=16:=by omega
           have x:By 5 wr w.heap.size (dF K b (n+1 - 1)):=by
            rw[show n+1 - 1=n by omega,az.out];have:=a;rw[show dW T K n=tab 16 (λi=>T.getD i 0 ^^^ K.getD (16*n+i) 0) from rfl,oo _ _ _ v] at this;rw[if_neg am];exact this
           clear a t;go_wp2_with fail;go_roundw
           case rel=>exact⟨n+1,by omega,by omega,by go_num,x,d⟩
           case measure=>simp[intOf];omega
    ·obtain rfl:n=11:=by omega
     have aS:By 5 wr w.heap.size (eA K b):=by rw[<-HL.out];exact a
     have a5:=rR K b;have ho:Ow 5 wr w.heap.size (.slice (some ⟨w.heap.size,0,none⟩) 16 16) (eA K b):=By.ow5 aS (JO _) (by rw[a5]) (by omega);clear a aS;go_wp2_with fail;go_ret;exact⟨⟨_,rfl,ho⟩,d⟩
theorem FD {P:Program}{a:TypeId}(c:P.underlying a=some (.array n e))(j:(P.info? a).map (·.size)=some n){b:Func}{p:Tmp}(d:b.results=#[.cell p a])(tmps:Array Value)(w:World)(g:Nat)(l:List UInt8)
  (f:tmps.getD p undef=.pointer (some ⟨g,0,none⟩)) (h:By T w g l) (i:l.length=n):(results b tmps).run P w=.ok (.agg (bF l)) w:=
 results_cell_row d tmps w g T (bF l) (0,0) _ f h c rfl (by rw[j,jx,i])
theorem FE (gc F:Nat)(row N:List UInt8)(r:UInt8)(w:World)(c:row.length=16)(f:rS row r N)(C:w.cell? ⟨gc,0,none⟩=some (.pointer (some ⟨F,0,none⟩)))(A:By 283 w F fQ):
  Calls prog 239 #[.pointer (some ⟨gc,0,none⟩),.agg (bF row),.int .u8 (r.toNat:Int)] w λe w'=>e=.returned (.agg (bF N))/\Kp w w':=by
 have h:=JE (CR c f);have H1:Hid (∀ i,i<4->(aM row (eH row) i).set i (row.getD i 0 ^^^ bY (row.getD (12+(i+1) % 4) 0))=aM row (eH row) (i+1)):=λi a=>io _ _ i (by rw[c,lJ]) (by omega) _ (CP row i (by omega))
 have J:Hid (∀ i j,i<=4->i<=j->(aM row (eH row) i).getD j 0=row.getD j 0):=λi j a hj=>qf _ _ i j (by rw[c,lJ]) (by omega) hj
 have v:Hid (∀ i,i<=4->(aM row (eH row) i).length=16):=λi a=>by rw[fX _ _ i (by rw[c,lJ]) (by omega),c]
 have T:Hid ((aM row (eH row) 4).getD 0 0=(eH row).getD 0 0):=by
  refine(nL _ _ 4 0 (by rw[c,lJ]) (by omega)).trans ?_;rw[if_pos (by omega)]
 have P:aM row (eH row) 0=row:=by simp[aM]
 have H2:Hid (∀ i,i<12->(aM row N (i+4)).set (i+4) (row.getD (i+4) 0 ^^^ N.getD i 0)=aM row N (i+1+4)):=λi a=>by
  have O:=f.high (i+4) (by omega) (by omega);rw[LR] at O;rw[show i+1+4=i+4+1 by omega];refine io _ _ (i+4) (by rw[c,f.len]) (by omega) _ ?_;rw[<-O,JF,JG (by rw[f.len];omega)];rfl
 have G2:Hid (∀ i,i<12->(aM row N (i+4)).getD (i+4) 0=row.getD (i+4) 0/\(aM row N (i+4)).getD i 0=N.getD i 0):=λi a=>by
  rw[nL _ _ (i+4) _ (by rw[c,f.len]) (by omega),nL _ _ (i+4) _ (by rw[c,f.len]) (by omega),if_neg (by omega),if_pos (by omega)];exact⟨rfl,rfl⟩
 have X:Hid (∀ i,i<=12->(aM row N (i+4)).length=16):=λi a=>by rw[fX _ _ (i+4) (by rw[c,f.len]) (by omega),c]
 have A2:Hid (aM row N (12+4)=N):=by
  have:=jG row N (by rw[c,f.len]);rw[f.len] at this;exact this
 have B0:By 231 (w.alloc (.cells (bF row) 231)) w.heap.size (aM row (eH row) 0):=by
  rw[P];exact By.new _ w row
 generalize eH row=M at *;have H:=f.len;clear f P;go_enter func239,ntmps239;go_wp2_with fail;have x:=B0.kp ((NQ _).alloc (.cells (bF (List.replicate 16 0)) 231));have u:=By.new 231 (w.alloc (.cells (bF row) 231)) (List.replicate 16 0);rw[JY] at u;have k:Kp w ((w.alloc (.cells (bF row) 231)).alloc (.cells (bF (List.replicate 16 0)) 231)):=((NQ w).alloc _).alloc _;have t:bF (List.replicate 16 0)=#[Value.int IntKind.u8 0,Value.int IntKind.u8 0,Value.int IntKind.u8 0,Value.int IntKind.u8 0,Value.int IntKind.u8 0,Value.int IntKind.u8 0,Value.int IntKind.u8 0,Value.int IntKind.u8 0,Value.int IntKind.u8 0,Value.int IntKind.u8 0,Value.int IntKind.u8 0,Value.int IntKind.u8 0,Value.int IntKind.u8 0,Value.int IntKind.u8 0,Value.int IntKind.u8 0,Value.int IntKind.u8 0]:=rfl;rw[t] at x u k;obtain⟨G,q⟩:∃ W,(w.alloc (.cells (bF row) 231)).alloc (.cells #[Value.int IntKind.u8 0,Value.int IntKind.u8 0,Value.int IntKind.u8 0,Value.int IntKind.u8 0,Value.int IntKind.u8 0,Value.int IntKind.u8 0,Value.int IntKind.u8 0,Value.int IntKind.u8 0,Value.int IntKind.u8 0,Value.int IntKind.u8 0,Value.int IntKind.u8 0,Value.int IntKind.u8 0,Value.int IntKind.u8 0,Value.int IntKind.u8 0,Value.int IntKind.u8 0,Value.int IntKind.u8 0] 231)=W:=⟨_,rfl⟩;rw[q] at x u k ⊢;have C1:=k.cell C;have X1:=A.kp k;have ag:F<w.heap.size:=A.lt;have af:gc<w.heap.size:=Kl w _ C;clear q t B0 C A;go_loopw[11] (λp wr=>∃ i:Nat,i<=4/\p=.int .i64 i/\By 231 wr w.heap.size (aM row M i)/\Wr w.heap.size G wr) (λp _=>4 - (intOf p).toNat)
 case atStart=>exact⟨0,by omega,rfl,x,Wr.refl _ _⟩
 case round=>
  clear x;obtain⟨i,a,rfl,b,g⟩:=hrel;by_cases d:i<4
  ·have hq:(i:Int)<4:=by omega
   have K:(i:Int)<16:=by omega
   obtain⟨m,L⟩:∃ m,(i+1) % 4=m:=⟨_,rfl⟩;have ae:m<4:=by omega
   have E:=b.cell i (by rw[v.out i a];omega);rw[J.out i i a (JO _)] at E;have D:=b.cell (12+m) (by rw[v.out i a];omega);rw[J.out i (12+m) a (by omega)] at D;have f1:=b.frozen i;have c3:=g.cell C1 (by show gc≠w.heap.size;omega);have c4:=(g.by X1 (by omega)).cell (row.getD (12+m) 0).toNat (by rw[og];exact dx _);rw[pZ] at c4;have l:=H1.out i d;rw[L] at l;have z:=cz (row.getD i 0) (bY (row.getD (12+m) 0));have y:=dx (row.getD (12+m) 0);have aa:((row.getD (12+m) 0).toNat:Int)<256:=by omega
   generalize row.getD (12+m) 0=U at *;generalize row.getD i 0=V at *;generalize bY U=Z at *;generalize V ^^^ Z=Y at *;have I:=JE l;have i1:IntKind.i64.wrap ((i:Int)+1)=(i:Int)+1:=JI _ (by omega);have i2:((i:Int)+1).tmod 4=(m:Int):=by rw[Kv (by omega)];omega
   have i3:((i:Int)+1) % 4=(m:Int):=by omega
   have i4:(m:Int)<4:=by omega
   have i5:0<=(m:Int):=by omega
   clear l L y;go_wp2_with fail;go_region
   all_goals
    go_wp2_with fail;go_roundw
    case rel=>exact⟨i+1,by omega,by go_num,(b.set i _ I.out).drew,(g.setCell i _).drew⟩
    case measure=>simp[intOf];omega
  ·obtain rfl:i=4:=by omega
   have S:=b.cell 0 (by rw[v.out 4 a];omega);rw[T.out] at S;have f0:=b.frozen 0;have z:=cz (M.getD 0 0) r;have s:=b.set 0 _ h.out;have n:=g.setCell 0 (.int .u8 ((M.getD 0 0 ^^^ r).toNat:Int));generalize M.getD 0 0 ^^^ r=Y at *;generalize M.getD 0 0=V at *;clear h H1 J v T b g;go_wp2_with fail;generalize wr.setCell ⟨w.heap.size,0,none⟩ (.int .u8 (Y.toNat:Int))=W2 at *;clear S f0 z;go_loopw[38] (λp wr=>∃ i:Nat,i<=12/\p=.int .i64 i/\By 231 wr w.heap.size (aM row N (i+4))/\Wr w.heap.size G wr) (λp _=>12 - (intOf p).toNat)
   case atStart=>exact⟨0,by omega,rfl,s,n⟩
   case round=>
    clear s n;obtain⟨i,a,rfl,b,g⟩:=hrel;by_cases d:i<12
    ·have hq:(i:Int)<12:=by omega
     have ad:(i:Int)<16:=by omega
     have ab:(i:Int)+4<16:=by omega
     have E:=b.cell (i+4) (by rw[X.out i a];omega);have D:=b.cell i (by rw[X.out i a];omega);obtain⟨R,Q⟩:=G2.out i d;rw[R] at E;rw[Q] at D;have f1:=b.frozen (i+4);have l:=H2.out i d;have z:=cz (row.getD (i+4) 0) (N.getD i 0);generalize row.getD (i+4) 0=U at *;generalize N.getD i 0=V at *;generalize U ^^^ V=Y at *;have I:=JE l;have i1:IntKind.i64.wrap ((i:Int)+4)=(i:Int)+4:=JI _ (by omega);have i2:((i:Int)+4).toNat=i+4:=by omega
     have i3:(0:Int)<=(i:Int)+4:=by omega
     clear l R Q;go_wp2_with fail;go_region
     all_goals
      go_wp2_with fail;go_roundw
      case rel=>exact⟨i+1,by omega,by go_num,(b.set (i+4) _ I.out).drew,(g.setCell (i+4) _).drew⟩
      case measure=>simp[intOf];omega
    ·obtain rfl:i=12:=by omega
     rw[A2.out] at b;have hR:=g.by u (by omega);have hk:Kp w wr:=Below.trans (show Below w.heap.size w G from k) (g.below k.size (JO _));clear d a g u k;go_wp2_with(first
      | (refine qe underlying231 (by kernel_rfl) rfl (.tmp 4) rfl w.heap.size N rfl b H ?_)
      | (refine sS (by kernel_rfl) rfl rfl (.tmp 6) (.tmp 51) rfl (w.heap.size+1) (List.replicate 16 0) N rfl rfl hR (by decide) H ?_;intro w5 B o))
     refine bodyPost_ret (FD underlying231 (by kernel_rfl) rfl _ _ (w.heap.size+1) N rfl B H) rfl ?_;exact⟨rfl,o.below hk (by omega)⟩
theorem FF {cs:List Value}(k:Kp w w')(h:w.rangeAt b o cs):w'.rangeAt b o cs:=λj v a=>k.cell (h j v a)
theorem sW (k:Kp w w')(h:w.there b o n):w'.there b o n:=λj c=>by
 obtain⟨f,e⟩:=h j c;obtain⟨v,a⟩:=Option.isSome_iff_exists.1 f;have d:=Kl w _ a;refine⟨by rw[k.cell a];rfl,?_⟩;rw[<-e];have:=k.block b d;simp only[World.frozen?,this]
theorem yn {o' n':Nat}(h:w.there b o n)(d:o<=o')(c:o'+n'<=o+n):w.there b o' n':=λj a=>by
 have:=h (o' - o+j) (by omega);rwa [show o+(o' - o+j)=o'+j by omega] at this
theorem dQ.range (h:dQ w b o K)(e:16*n+16<=K.length):w.rangeAt b (o+16*n) (Lib.byteCells (cJ K n)):=λj v a=>by
 have f:=it e;have c:j<(cJ K n).length:=by
  have:=(Ks.1 a).1;rwa [cO] at this
 rw[gC _ j c] at a;cases a;have d:=h (16*n+j) (by omega);rw[<-gd (by omega),JF,JG c] at d;rw[Mn,d];rfl
theorem dQ.row (h:dQ w b o K)(c:16*n+16<=K.length):dQ w b (o+16*n) (cJ K n):=λi a=>by
 rw[it c] at a;rw[gd a,Mn];exact h (16*n+i) (by omega)
theorem sX (K:List UInt8)(m i:Nat)(h:i<m):(K.take m).getD i 0=K.getD i 0:=by
 rw[JF,Mk h,JF]
theorem dQ.store (h:dQ w b o (K.take (16*(n+1))))(f:w.there b o K.length)(g:16*(n+1)+16<=K.length):
  dQ (w.setCells b (o+16*(n+1)) (Lib.byteCells (cJ K (n+1)))) b o (K.take (16*(n+1+1))):=λi k=>by
 have l:=it g;have c:i<16*(n+1+1):=by rw[Ki] at k;omega
 rw[sX _ _ _ c];by_cases d:i<16*(n+1)
 ·rw[World.cell?_setCells_out b _ _ _ _ (λ_ _=>.inl (by show o+i<o+16*(n+1);omega))]
  have:=h i (by rw[Ki];omega);rwa [sX _ _ _ d] at this
 ·have a:i - 16*(n+1)<(cJ K (n+1)).length:=by omega
  have:=World.cell?_setCells_in b (Lib.byteCells (cJ K (n+1))) (o+16*(n+1)) w (λj a=>((yn f (o':=o+16*(n+1)) (n':=16) (by omega) (by omega)) j (by rw[cO] at a;omega)).1) (i - 16*(n+1)) (by rw[cO];exact a);rw[show o+16*(n+1)+(i - 16*(n+1))=o+i by omega] at this;rw[this];have e:=gC _ _ a;rw[JG (by rw[cO];exact a)] at e;rw[Ms e];have:=gd (K:=K) (n:=n+1) (j:=i - 16*(n+1)) (by omega);rw[show 16*(n+1)+(i - 16*(n+1))=i by omega,JF,JG a] at this;rw[<-this];rfl
theorem yo {g:Nat}:∀ (vs:List Value) (o:Nat) (A w:World),Wr g A w->Wr g A (w.setCells g o vs)
 | [],_,_,_,h=>h
 | v :: r,o,A,w,h=>yo r (o+1) A _ (h.setCell o v)
structure Cph (w:World)(gc bx:Nat)(K:List UInt8):Prop where
 ptr:w.cell? ⟨gc,0,none⟩=some (.pointer (some ⟨bx,0,none⟩))
 rows:dQ w gc 1 K
 box:By 283 w bx fQ
theorem Cph.kp (h:Cph w gc a K)(k:Kp w w'):Cph w' gc a K:=⟨k.cell h.ptr,h.rows.kp k,h.box.kp k⟩
theorem Cph.wr (h:Cph w gc b K)(k:Wr a w w')(c:gc≠a)(d:b≠a):Cph w' gc b K:=⟨k.cell h.ptr c,h.rows.wr k c,k.by h.box d⟩
theorem FG:∀ w,(zeroValue 261).run prog w=.ok (.agg (#[.pointer none]++bF (List.replicate 176 0))) w:=(zero_of_info (n:=177) (by kernel_rfl)).1
theorem FH (l:List UInt8)(v:Value):(#[Value.pointer none]++bF l).setIfInBounds 0 v=#[v]++bF l:=by
 apply Array.ext';simp
theorem FJ {p:Value}(a:w.heap[gc]?=some (.cells ((#[p]++bF (List.replicate 176 0)).toList.take 1++(Lib.byteCells key++(#[p]++bF (List.replicate 176 0)).toList.drop (1+(Lib.byteCells key).length))).toArray T (0,0)))(c:key.length=16):
  w.cell? ⟨gc,0,none⟩=some p/\dQ w gc 1 key/\w.there gc 1 176:=by
 have e:((#[p]++bF (List.replicate 176 0)).toList.take 1++(Lib.byteCells key++(#[p]++bF (List.replicate 176 0)).toList.drop (1+(Lib.byteCells key).length)))=p :: (Lib.byteCells key++(Lib.byteCells (List.replicate 176 0)).drop 16):=by
  rw[cO,c];simp[bF]
 rw[e] at a;have d:(Lib.byteCells key++(Lib.byteCells (List.replicate 176 0)).drop 16).length=176:=by rw[JQ,LG,cO,cO,c,Lb]
 refine⟨by rw[cell_of_row _ _ _ _ _ _ a];simp,λi b=>?_,λj f=>⟨?_,?_⟩⟩
 ·rw[cell_of_row _ _ _ _ _ _ a,JT,MW 1 i,JU,Kt (by rw[cO];exact b),gC key i b,JF,JG b]
  rfl
 ·rw[cell_of_row _ _ _ _ _ _ a,JT,MW 1 j,JU,JG (by omega)]
  rfl
 ·simp[World.frozen?,a]
theorem FM (h:key.length=16):(cU key).take (16*(0+1))=key:=by
 have:=CM h;unfold cJ at this;simpa using this
theorem FO (aa:Value)(key:List UInt8)(w:World)(X:Rd w aa key)(x:key.length=16):
  Calls prog 205 #[aa] w λe w'=>(∃ gc f,e=.returned (.pointer (some ⟨gc,0,none⟩))/\Cph w' gc f (cU key)/\w.heap.size<=gc/\w.heap.size<=f)/\Kp w w':=by
 have U:=aj;have t:(prog.info? 5).map (·.size)=some 1:=by kernel_rfl
 obtain⟨ad,c,rfl,al,aC⟩:=X.shape;rw[x] at al X ⊢;obtain⟨ab,ao,rfl,aD,O⟩:=X.at 0 (by omega);have z1:=FG;have HS:=JE (FH (List.replicate 176 0));have S:=JE (fun(w:World) (gc:Nat) (T:TypeId) (p:Value) h=>FJ (w:=w) (gc:=gc) (T:=T) (p:=p) (key:=key) h x);have G:(#[Value.pointer none]++bF (List.replicate 176 0)).size=177:=by rw[Array.size_append,jx];rfl
 obtain⟨Z,hZ⟩:∃ Z,#[Value.pointer none]++bF (List.replicate 176 0)=Z:=⟨_,rfl⟩;rw[hZ] at z1 HS G;have hz:¬Z=#[]:=λh=>by rw[h] at G;simp at G
 clear hZ;have HL:=JE (nJ x);have HT:=JE (FM x);have aw:=JE (CN x);generalize cU key=K at *;go_enter func205,ntmps205;go_wp2_with fail;refine(Fr w).mono ?_;rintro _ q ⟨⟨f,rfl,s,am⟩,V⟩;have J:=V.size;obtain⟨Y,hY⟩:∃ Y,Z.setIfInBounds 0 (Value.pointer (some ⟨f,0,none⟩))=Y:=⟨_,rfl⟩;have C:=HS.out (Value.pointer (some ⟨f,0,none⟩));rw[hY] at C;have HY:=JE C;have P:Y.size=177:=by rw[<-hY,Nj,G]
 clear C;have z:Hid (∀ W,Kp w W->∀ j v,(Lib.byteCells key)[j]?=some v->W.cell? ((⟨ab,ao,none⟩:Addr).add j)=some v):=λW hW j v hj=>by
  have u:j<key.length:=by
   have:=(Ks.1 hj).1;rwa [cO] at this
  rw[gC key j u] at hj;cases hj;have:=hW.cell (O j (by omega));rw[Addr.add_mid,this,JF,JG u];rfl
 have E:=JE (cO key);clear O X;go_wp2_with(refine wpList_copy_own (cs:=Lib.byteCells key) rfl (.tmp 13) (.tmp 14) 24 24 rfl 5 underlying24 t q.heap.size 1 16 16 ⟨ab,ao,none⟩ 16 c rfl rfl Y 261 (heap_alloc_new q _) (by rw[E.out,x];rfl) (z.out _ (V.alloc _)) (by rw[E.out,x,P];omega) (λv hv=>by obtain⟨b,_,rfl⟩:=KN.1 hv;rfl) ?_)
 obtain⟨W2,m⟩:∃ W,(q.alloc (.cells Y 261)).setRow q.heap.size (Y.toList.take 1++(Lib.byteCells key++Y.toList.drop (1+(Lib.byteCells key).length))).toArray=W:=⟨_,rfl⟩;rw[m];have hg:W2.heap[q.heap.size]?=some (.cells (Y.toList.take 1++(Lib.byteCells key++Y.toList.drop (1+(Lib.byteCells key).length))).toArray 261 (0,0)):=by
  rw[<-m];exact setRow_heap _ _ Y _ _ _ (heap_alloc_new q _)
 have k2:Kp w W2:=by
  rw[<-m];exact Go.Proofs.YthmhklmkgkfcpaaGreatDoor.below_setRow (V.alloc _) J _
 have X2:By 283 W2 f fQ:=by
  rw[<-m];exact(Go.Proofs.YthmhklmkgkfcpaaGreatDoor.setRow_other _ _ _ _ (by have:=s.lt;omega)).trans (s.kp ((NQ q).alloc _))
 rw[HY.out] at hg;obtain⟨p2,l2,t2⟩:=S.out _ _ _ _ hg;have N:f≠q.heap.size:=by have:=s.lt;omega
 rw[<-HT.out] at l2;have L:w.heap.size<=q.heap.size:=J;generalize q.heap.size=gc at *;clear hg m E z S hY HY P s V G HS z1 hz x U t HT;have az:prog.underlying 231=some (.array 16 5):=underlying231;have aB:(prog.info? 231).map (·.size)=some 16:=by kernel_rfl
 go_loopw[4,16] (λr p wr=>∃ n:Nat,n<=10/\p=.int .i64 n/\r=.int .u8 ((eB n).toNat:Int)/\wr.cell? ⟨gc,0,none⟩=some (.pointer (some ⟨f,0,none⟩))/\dQ wr gc 1 (K.take (16*(n+1)))/\wr.there gc 1 176/\By 283 wr f fQ/\Kp w wr) (λ_ p _=>10 - (intOf p).toNat)
 case atStart=>exact⟨0,by omega,rfl,rfl,p2,l2,t2,X2,k2⟩
 case round=>
  clear p2 l2 t2 X2 k2;obtain⟨n,hn,rfl,rfl,hp,u,ht,s,B⟩:=hrel;by_cases af:n<10
  ·have q1:(n:Int)<10:=by omega
   have q2:(n:Int)<11:=by omega
   have q3:(n:Int)+1<11:=by omega
   have q4:(0:Int)<=(n:Int)+1:=by omega
   have i1:IntKind.i64.wrap ((n:Int)+1)=(n:Int)+1:=JI _ (by omega);have i2:((n:Int)+1).toNat=n+1:=by omega
   have ap:=HL.out;have k:cJ (K.take (16*(n+1))) n=cJ K n:=by
    refine lI 16 _ _ (it (by rw[Ki];omega)) (it (by omega)) λi hi=>?_
    rw[gd hi,gd hi,sX _ _ _ (by omega)]
   have hr:=u.range (n:=n) (by rw[Ki];omega);rw[k,Me 16 n] at hr;have ae:=yn ht (o':=1+16*(n+1)) (n':=16) (by omega) (by omega);rw[Me 16 (n+1)] at ae;have ah:(Lib.byteCells (cJ K n)).length=16:=by rw[cO];exact it (by omega)
   have ag:(Lib.byteCells (cJ K (n+1))).length=16:=by rw[cO];exact it (by omega)
   have Q:=aw.out n af;have aA:∀ v∈Lib.byteCells (cJ K (n+1)),v.oneCell'=true:=λv hv=>by obtain⟨b,_,rfl⟩:=KN.1 hv;rfl
   have l:Calls prog 239 #[.pointer (some ⟨gc,0,none⟩),.agg (Lib.byteCells (cJ K n)).toArray,.int .u8 ((eB n).toNat:Int)] wr.drew λe w'=>e=.returned (.agg (Lib.byteCells (cJ K (n+1))).toArray)/\Kp wr.drew w':=
    FE gc f (cJ K n) (cJ K (n+1)) (eB n) wr.drew (it (by omega)) Q hp s.drew
   have D:=JE l;have HD:=JE (λW=>lZ (eB n) W);have HK:=JE B;have HP:=JE hp;have ax:=JE u;have R:=JE ht;have ar:=JE s;have aE:=JE k;generalize M:Lib.byteCells (cJ K n)=aq at *;generalize y:Lib.byteCells (cJ K (n+1))=d at *;have HC:=JE y;clear l Q hp u ht s B k M y;go_wp2_with fail;go_region_held3 (λW=>W.rangeAt gc (1+n*16) aq/\W.there gc (1+(n+1)*16) 16)
    (first
     | (refine⟨(World.rangeAt_drew _ _ _ _).2 ?_,(World.there_drew _ _ _ _).2 ?_⟩ <;> assumption)
     | (go_split_ands;exact⟨FF (by assumption) (by assumption),sW (by assumption) (by assumption)⟩)
     | (go_split_ands;exact⟨World.rangeAt_setCells_apart (by assumption) _ _ _ (by omega),World.there_setCells (by assumption) _ _ _⟩))
    (first
     | (go_at_call 239;refine D.out.mono ?_;rintro _ o ⟨rfl,a⟩))
   have k7:=a;have ak:w.heap.size<=o.heap.size:=Kd HK.out.size a.size;have A:=yo (g:=gc) d (1+(n+1)*16) o o (Wr.refl gc o);have ai:Kp w (o.setCells gc (1+(n+1)*16) d):=Below.trans (show Below w.heap.size w o from HK.out.drew.trans a) (A.below ak L);have H:(o.setCells gc (1+(n+1)*16) d).cell? ⟨gc,0,none⟩=some (.pointer (some ⟨f,0,none⟩)):=by
    rw[World.cell?_setCells_out gc _ _ _ _ (λ_ _=>.inl (by show 0<1+(n+1)*16;omega))];exact a.cell HP.out
   have F:(o.setCells gc (1+(n+1)*16) d).there gc 1 176:=World.there_setCells (sW a ((World.there_drew _ _ _ _).2 R.out)) _ _ _;have an:=A.by (ar.out.drew.kp a) N;have I:dQ (o.setCells gc (1+(n+1)*16) d) gc 1 (K.take (16*(n+1+1))):=by
    rw[<-HC.out,Me (n+1) 16];exact dQ.store (dQ.kp (show dQ wr.drew gc 1 _ from ax.out) a) (by rw[HL.out];exact sW a ((World.there_drew _ _ _ _).2 R.out)) (by rw[HL.out];omega)
   generalize o.setCells gc (1+(n+1)*16) d=W8 at *;have av:=JE H;have ay:=JE I;have au:=JE F;clear H I F A;go_wp2_with(go_at_call 240;refine(HD.out _).mono ?_;rintro _ _ ⟨rfl,rfl⟩)
   go_roundw
   case rel=>exact⟨n+1,by omega,by go_num,rfl,av.out,ay.out,au.out,an,ai⟩
   case measure=>simp[intOf];omega
  ·obtain rfl:n=10:=by omega
   have ap:=HL.out;rw[Ku (by omega)] at u;go_wp2_with fail;go_ret;exact⟨⟨gc,f,rfl,⟨hp,u,s⟩,L,am⟩,B⟩

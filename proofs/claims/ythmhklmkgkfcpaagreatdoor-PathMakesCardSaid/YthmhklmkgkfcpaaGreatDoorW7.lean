import Derived.Test.YthmhklmkgkfcpaaGreatDoorW5
import Derived.RegionTactic
import Derived.BigRegion
import Derived.Deep.RegionWith
set_option linter.all false
set_option maxHeartbeats 8000000
set_option maxRecDepth 100000
namespace Go.Proofs.YthmhklmkgkfcpaaGreatDoor
open Go.Proofs.Tryz Go.RowKit
variable {A B w:World}{T e:TypeId}{b c g k n o:Nat}{l t:List UInt8}
structure xW (p:Prop):Prop where
 out:p
theorem later {G p:Prop}(ways:xW G->p)(rest:xW G):p:=ways rest
structure Wr (g:Nat)(A B:World):Prop where
 os:B.os=A.os
 tape:B.tape=A.tape
 output:B.output=A.output
 size:A.heap.size<=B.heap.size
 block:∀ k,k<A.heap.size->k≠g->B.heap[k]?=A.heap[k]?
theorem Wr.refl (g:Nat)(A:World):Wr g A A:=⟨rfl,rfl,rfl,Ja _,λ_ _ _=>rfl⟩
theorem Wr.trans {C:World}(h:Wr g A B)(k:Wr g B C):Wr g A C:=
 ⟨k.os.trans h.os,k.tape.trans h.tape,k.output.trans h.output,Js h.size k.size,λi b a=>(k.block i (Jh b h.size) a).trans (h.block i b a)⟩
theorem Wr.of_kp (h:Kp A B):Wr g A B:=⟨h.os,h.tape,h.output,h.size,λk a _=>h.block k a⟩
theorem Wr.setCell (h:Wr g A B)(i:Nat)(v:Value):Wr g A (B.setCell ⟨g,i,none⟩ v):=
 ⟨h.os,h.tape,h.output,by simpa using h.size,λk b a=>(Below.heap_setCell B ⟨g,i,none⟩ v k a).trans (h.block k b a)⟩
theorem Wr.drew (h:Wr g A B):Wr g A B.drew:=h.trans (Wr.of_kp (Kp.refl B).drew)
theorem Wr.below (h:Wr g A B)(a:n<=A.heap.size)(c:n<=g):Below n A B:=
 ⟨h.os,h.tape,h.output,h.size,λk b=>h.block k (by omega) (by omega)⟩
theorem Wr.cell (h:Wr g A B){p:Addr}{v:Value}(a:A.cell? p=some v)(b:p.block≠g):B.cell? p=some v:=
 (Ll (w:=A) (h.block p.block (Jz A p a) b)).trans a
theorem Wr.by (h:Wr g A B)(a:By T A k l)(b:k≠g):By T B k l:=(h.block k a.lt b).trans a
theorem By.drew (h:By T w g l):By T w.drew g l:=h
theorem By.made (T:TypeId)(w:World)(cs:Array Value)(l:List UInt8)(h:cs=bD l):By T (w.alloc (.cells cs T)) w.heap.size l:=by
 subst h;exact By.new T w l
def dG (w:World)(b o:Nat)(l:List UInt8):Prop:=∀ i,i<l.length->w.cell? ⟨b,o+i,none⟩=some (.int .u8 ((l.getD i 0).toNat:Int))
theorem dG.wr (h:dG A b o l)(k:Wr g A B)(c:b≠g):dG B b o l:=λi a=>k.cell (h i a) c
theorem dG.kp (h:dG A b o l)(k:Kp A B):dG B b o l:=λi a=>k.cell (h i a)
theorem pP (A B:List UInt8)(i j:Nat)(h:A.length=B.length)(c:i<=A.length)(b:i<=j):(aG A B i).getD j 0=A.getD j 0:=by
 unfold aG;have a:(B.take i).length=i:=by simp;omega
 rw[IU,JB (by omega),a,LJ,IU,show i+(j - i)=j by omega]
def fM (s r:List UInt8):List UInt8:=tab 16 λi=>s.getD i 0 ^^^ r.getD i 0
theorem pQ (s r:List UInt8):(fM s r).length=16:=fi _ _
theorem xX (n:Nat)(f:Nat->UInt8)(i:Nat)(h:i<n):(tab n f)[i]?=some (f i):=by simp[tab,h]
theorem sA (b k o:Nat)(s r:List UInt8)(w:World)(d:s.length=16)(A:r.length=16)(j:k≠b)(a:By 231 w b s)(m:dG w k o r):
  Calls prog 241 #[.pointer (some ⟨b,0,none⟩),.pointer (some ⟨k,o,none⟩)] w λe w'=>e=.returned (.tuple #[])/\By 231 w' b (fM s r)/\Wr b w w':=by
 have u:Hid (∀ i,i<16->(aG s (fM s r) i).set i (s.getD i 0 ^^^ r.getD i 0)=aG s (fM s r) (i+1)):=λi f=>
  gX _ _ i (by rw[pQ,d]) (by rw[d];exact f) _ (xX 16 _ i f)
 have x:Hid (∀ i,i<16->(aG s (fM s r) i).getD i 0=s.getD i 0):=λi f=>pP _ _ i i (by rw[pQ,d]) (by omega) (Ja _)
 have v:Hid (∀ i,i<=16->(aG s (fM s r) i).length=16):=λi f=>by rw[fR _ _ i (by rw[pQ,d]) (by omega),d]
 have y:Hid (aG s (fM s r) 16=fM s r):=jA _ _ (by rw[pQ,d]);have g:By 231 w b (aG s (fM s r) 0):=by rw[show aG s (fM s r) 0=s by simp[aG]];exact a
 generalize n:aG s (fM s r)=M at *;generalize fM s r=X at *;clear n a;go_enter func241,ntmps241;go_wp2_with fail;go_loopw[5] (λp wr=>∃ i:Nat,i<=16/\p=.int .i64 i/\By 231 wr b (M i)/\Wr b w wr) (λp _=>16 - (intOf p).toNat)
 case atStart=>exact⟨0,by omega,rfl,g,Wr.refl _ _⟩
 case round=>
  clear g;obtain⟨i,f,rfl,a,h⟩:=hrel;by_cases c:i<16
  ·have B:(i:Int)<16:=by omega
   have q:=a.cell i (by rw[v.out i f];exact c);have C:=a.frozen i;rw[x.out i c] at q;have D:=(m.wr h j) i (by omega);have z:=bV (s.getD i 0) (r.getD i 0);have l:=u.out i c;generalize s.getD i 0=U at *;generalize r.getD i 0=V at *;generalize U ^^^ V=Z at *;have t:=Lib.hid l;clear l;go_wp2_with fail;go_region
   all_goals
    go_wp2_with fail;go_roundw
    case rel=>exact⟨i+1,by omega,by go_num,(a.set i _ t.out).drew,(h.setCell i _).drew⟩
    case measure=>simp[intOf];omega
  ·obtain rfl:i=16:=by omega
   rw[y.out] at a;go_wp2_with fail;go_end0
   exact⟨rfl,a,h⟩
theorem EP:∀ i,i<16->(5*i) % 16=jK i:=by
 have:∀ i:Fin 16,(5*i.1) % 16=jK i.1:=by decide
 exact λi a=>this ⟨i,a⟩
theorem lU (s:List UInt8):(cJ s).length=16:=fi _ _
theorem ER (gc b v:Nat)(s:List UInt8)(w:World)(d:s.length=16)(q:gc≠b)(r:v≠b)(A:w.cell? ⟨gc,0,none⟩=some (.pointer (some ⟨v,0,none⟩)))(z:By 283 w v fL)(a:By 231 w b s):
  Calls prog 242 #[.pointer (some ⟨gc,0,none⟩),.pointer (some ⟨b,0,none⟩)] w λe w'=>e=.returned (.tuple #[])/\By 231 w' b (cJ s)/\Wr b w w':=by
 have K:Hid (∀ i,i<16->(aG s (cJ s) i).set i (bS (s.getD (jK i) 0))=aG s (cJ s) (i+1)):=λi j=>
  gX _ _ i (by rw[lU,d]) (by rw[d];exact j) _ (xX 16 _ i j)
 have L:Hid (∀ i,i<=16->(aG s (cJ s) i).length=16):=λi j=>by rw[fR _ _ i (by rw[lU,d]) (by omega),d]
 have N:Hid (aG s (cJ s) 16=cJ s):=jA _ _ (by rw[lU,d]);have C:aG s (cJ s) 0=s:=by simp[aG]
 generalize I:aG s (cJ s)=M at *;generalize cJ s=X at *;have O:=Lib.hid C;clear I C;go_enter func242,ntmps242;go_wp2_with(first
  | (refine pO underlying231 (by kernel_rfl) rfl (.tmp 7) rfl b s rfl a d ?_)
  | (refine sy (by kernel_rfl) rfl rfl (.tmp 4) (.tmp 8) rfl w.heap.size (List.replicate 16 0) s rfl rfl (By.made _ _ _ _ rfl) (by decide) d ?_;intro x H c))
 have k:Kp w x:=c.below ((Kp.refl w).alloc _) (Ja _);have G:b<w.heap.size:=a.lt;have g:=a.kp k;have u:=k.cell A;have t:=z.kp k;rw[<-O.out] at g;clear c a A z;have l:w.heap.size≠b:=by omega
 go_loopw[9] (λp wr=>∃ i:Nat,i<=16/\p=.int .i64 i/\By 231 wr b (M i)/\Wr b x wr) (λp _=>16 - (intOf p).toNat)
 case atStart=>exact⟨0,by omega,rfl,g,Wr.refl _ _⟩
 case round=>
  clear g;obtain⟨i,j,rfl,a,h⟩:=hrel;by_cases f:i<16
  ·have V:(i:Int)<16:=by omega
   have W:=a.cell i (by rw[L.out i j];exact f);have Y:=a.frozen i;have c1:=h.cell u q;obtain⟨m,o⟩:∃ m,jK i=m:=⟨_,rfl⟩
   have B:=EP i f;rw[o] at B;have y:m<16:=by omega
   have c2:=(h.by H l).cell m (by omega);have n:=K.out i f;rw[o] at n;have J:=(h.by t r).cell (s.getD m 0).toNat (by rw[nW];exact dj _);rw[pM] at J;have E:=dj (s.getD m 0);have F:((s.getD m 0).toNat:Int)<256:=by omega
   generalize s.getD m 0=U at *;generalize bS U=Z at *;have D:=Lib.hid n;have T:IntKind.i64.wrap (5*(i:Int))=5*(i:Int):=IW _ (by omega);have S:(5*(i:Int)).tmod 16=(m:Int):=by rw[JF (by omega)];omega
   have R:(5*(i:Int)) % 16=(m:Int):=by omega
   have Q:(m:Int)<16:=by omega
   have P:0<=(m:Int):=by omega
   clear n o B;go_wp2_with fail;go_region
   all_goals
    go_wp2_with fail;go_roundw
    case rel=>exact⟨i+1,by omega,by go_num,by first|exact a.set i _ D.out|exact(a.set i _ D.out).drew,by first|exact h.setCell i _|exact(h.setCell i _).drew⟩
    case measure=>simp[intOf];omega
  ·obtain rfl:i=16:=by omega
   rw[N.out] at a;go_wp2_with fail;go_end0
   exact⟨rfl,a,(Wr.of_kp k).trans h⟩
theorem pR (a b c d:UInt8):ec a b c d=a ^^^ (a ^^^ b ^^^ c ^^^ d ^^^ bc (a ^^^ b) 2):=by
 unfold ec;rw[show(3:UInt8)=1 ^^^ 2 by decide,rm,vu,Cn];have:∀ x y z aa v w:UInt8,x ^^^ (y ^^^ z) ^^^ aa ^^^ v=w ^^^ (w ^^^ y ^^^ aa ^^^ v ^^^ (x ^^^ z)):=by
  intro x y z aa v w;have e:w ^^^ (w ^^^ y ^^^ aa ^^^ v ^^^ (x ^^^ z))=(w ^^^ w) ^^^ (x ^^^ (y ^^^ z) ^^^ aa ^^^ v):=by ac_rfl
  rw[e,UInt8.xor_self,UInt8.zero_xor]
 exact this _ _ _ _ _ _
theorem ES (a b c d:UInt8):ec b c d a=b ^^^ (a ^^^ b ^^^ c ^^^ d ^^^ bc (b ^^^ c) 2)/\ec c d a b=c ^^^ (a ^^^ b ^^^ c ^^^ d ^^^ bc (c ^^^ d) 2)/\ec d a b c=d ^^^ (a ^^^ b ^^^ c ^^^ d ^^^ bc (d ^^^ a) 2):=by
 rw[pR,pR,pR,show b ^^^ c ^^^ d ^^^ a=a ^^^ b ^^^ c ^^^ d by ac_rfl,show c ^^^ d ^^^ a ^^^ b=a ^^^ b ^^^ c ^^^ d by ac_rfl,show d ^^^ a ^^^ b ^^^ c=a ^^^ b ^^^ c ^^^ d by ac_rfl];exact⟨rfl,rfl,rfl⟩
theorem pS (l:List UInt8)(i j:Nat)(x:UInt8)(a:i<l.length):(l.set i x).getD j 0=if j=i then x else l.getD j 0:=by
 by_cases e:j=i
 ·subst e
  simp[IU,a]
 ·rw[if_neg e]
  simp[IU,Mc,MX e]
def ij (t:List UInt8)(i:Nat)(l:List UInt8):Prop:=l.length=16/\∀ m,m<16->l.getD m 0=if m<i then (du t).getD m 0 else t.getD m 0
theorem ij.begin (h:t.length=16):ij t 0 t:=⟨h,λm _=>by rw[if_neg (by omega)]⟩
theorem nX (t:List UInt8)(n k:Nat)(b:n<4)(a:k<4):(du t).getD (4*n+k) 0=ec (t.getD (4*n+k) 0) (t.getD (4*n+(k+1) % 4) 0) (t.getD (4*n+(k+2) % 4) 0) (t.getD (4*n+(k+3) % 4) 0):=by
 unfold du;rw[iJ 16 _ (4*n+k) (by omega)];unfold at4;rw[show(4*n+k) / 4=n by omega,show(4*n+k) % 4=k by omega,Lr,Ke a]
theorem ij.next (h:ij t (4*n) l)(g:n<4)(a b c d:UInt8)(y:t.getD (4*n) 0=a)(x:t.getD (4*n+1) 0=b)(w:t.getD (4*n+2) 0=c)(v:t.getD (4*n+3) 0=d):
  ij t (4*(n+1)) ((((l.set (4*n) (ec a b c d)).set (4*n+1) (ec b c d a)).set (4*n+2) (ec c d a b)).set (4*n+3) (ec d a b c)):=by
 obtain⟨f,z⟩:=h;refine⟨by simp[f],λm u=>?_⟩;have o:=nX t n 0 g (by omega);have k:=nX t n 1 g (by omega);have j:=nX t n 2 g (by omega);have i:=nX t n 3 g (by omega);simp only[Lr,JS,Nat.reduceAdd,Nat.reduceMod,y,x,w,v] at o k j i;rw[pS _ _ _ _ (by simp[f];omega),pS _ _ _ _ (by simp[f];omega),pS _ _ _ _ (by simp[f];omega),pS _ _ _ _ (by rw[f];omega),z m u];by_cases p:m=4*n+3
 ·subst p;rw[if_pos rfl,if_pos (by omega),i]
 ·rw[if_neg p]
  by_cases q:m=4*n+2
  ·subst q;rw[if_pos rfl,if_pos (by omega),j]
  ·rw[if_neg q]
   by_cases r:m=4*n+1
   ·subst r;rw[if_pos rfl,if_pos (by omega),k]
   ·rw[if_neg r]
    by_cases s:m=4*n
    ·subst s;rw[if_pos rfl,if_pos (by omega),o]
    ·rw[if_neg s]
     by_cases e:m<4*n
     ·rw[if_pos e,if_pos (by omega)]
     ·rw[if_neg e,if_neg (by omega)]
theorem ij.all (h:ij t (4*4) l):l=du t:=
 lD 16 _ _ h.1 (fi _ _) λi a=>by rw[h.2 i a,if_pos (by omega)]
theorem xY (t:List UInt8):(du t).length=16:=fi _ _
theorem ET (n:Nat)(f:Nat->UInt8)(i:Nat)(h:i<n):(tab n f)[i]?=some (f i):=by simp[tab,h]
theorem pT (A:List UInt8)(n:Nat)(f:Nat->UInt8)(i:Nat)(h:A.length=n)(a:i<n):(aG A (tab n f) i).set i (f i)=aG A (tab n f) (i+1):=
 gX _ _ i (by rw[h,fi]) (by omega) _ (ET n f i a)
theorem pU (A:List UInt8)(n:Nat)(f:Nat->UInt8)(i:Nat)(h:A.length=n)(a:i<=n):(aG A (tab n f) i).length=n:=by
 rw[fR _ _ i (by rw[h,fi]) (by omega),h]
theorem nY (A:List UInt8)(n:Nat)(f:Nat->UInt8)(h:A.length=n):aG A (tab n f) n=tab n f:=by
 have:=jA A (tab n f) (by rw[h,fi]);rwa [fi] at this
theorem lV (A B:List UInt8):aG A B 0=A:=by simp[aG]
theorem sC {B:Nat}(h:Ow e w B (.slice (some ⟨g,0,none⟩) n c) l)(i:Nat)(a:i<l.length)(x:UInt8):
  w.cell? ⟨g,i,none⟩=some (.int .u8 ((l.getD i 0).toNat:Int))/\w.frozen? ⟨g,i,none⟩=false/\Ow e (w.setCell ⟨g,i,none⟩ (.int .u8 (x.toNat:Int))) B (.slice (some ⟨g,0,none⟩) n c) (l.set i x):=by
 have b:n=l.length:=by
  rcases h.shape with⟨h0,h1⟩|⟨g',c',h0,_⟩
  ·cases h0
  ·simp only[Ji] at h0;exact h0.2.1
 subst b;refine⟨?_,h.frozenAt i,?_⟩
 ·rw[World.ownsRow.cellAt h i (by omega),gd l i a,IU,IV a]
  rfl
 ·have d:=(World.ownsRow.stored h i (.int .u8 (x.toNat:Int))).1
  unfold Ow;rw[JA];have e:Lib.byteCells (l.set i x)=(Lib.byteCells l).set i (.int .u8 (x.toNat:Int)):=by simp[Lib.byteCells,List.map_set]
  rw[e];simpa using d
theorem Ow.aside {B:Nat}(h:Ow e w B (.slice (some ⟨g,0,none⟩) n c) l)(j:k≠g)(i:Nat)(v:Value):Ow e (w.setCell ⟨k,i,none⟩ v) B (.slice (some ⟨g,0,none⟩) n c) l:=by
 refine⟨h.1,?_⟩;rcases h.2 with f|⟨r,d,b,a,o,m,rest⟩
 ·exact .inl f
 ·have q:=a
  simp only[Ji,JL,Kn] at a;obtain⟨⟨rfl,_⟩,_⟩:=a;exact .inr ⟨g,d,b,q,o,(Below.heap_setCell w ⟨k,i,none⟩ v g (λp=>j p.symm)).trans m,rest⟩
theorem By.ow5 {B:Nat}(h:By e w g l)(b:B<=g)(a:n=l.length)(c:n<=1000000):Ow e w B (.slice (some ⟨g,0,none⟩) n n) l:=by
 subst a;exact⟨by rw[cG];simp,.inr ⟨g,l.length,_,rfl,b,h,Ja _,by unfold maxLen;omega,by simp[Lib.byteCells],by rw[ML,List.toList_toArray];exact JG (by rw[cG];exact Ja _)⟩⟩
theorem sD (c r k m j:Nat)(x:Int)(b:x=(k:Int))(h:c<4)(d:r<4)(f:k<4)(e:(r+k) % 4=m)(g:4*c+m=j):
  IntKind.i64.wrap ((r:Int)+x)=(r:Int)+x/\((r:Int)+x).tmod 4=(m:Int)/\((r:Int)+x) % 4=(m:Int)/\4*(c:Int)+(m:Int)=(j:Int)/\IntKind.i64.wrap (j:Int)=j/\(j:Int)<16/\j<16:=by
 have a:m<4:=by omega
 refine⟨IW _ (by omega),?_,by omega,by omega,IW _ (by omega),by omega,by omega⟩;rw[JF (by omega)];omega
theorem EU (c r i:Nat)(d:c<4)(a:r<4)(b:4*c+r=i):
  IntKind.i64.wrap (4*(c:Int))=4*(c:Int)/\4*(c:Int)+(r:Int)=(i:Int)/\IntKind.i64.wrap (i:Int)=i/\(i:Int)<16/\i<16:=
 ⟨IW _ (by omega),by omega,IW _ (by omega),by omega,by omega⟩
theorem EV (c r:Nat)(b:c<4)(a:r<4):4*((c+r) % 4)+r=jK (4*c+r):=by
 unfold jK
 rw[show(4*c+r) / 4=c by omega,show(4*c+r) % 4=r by omega]
theorem EW (vw vb:Value)(K b:List UInt8)(bx:Nat)(w:World)(hw:Rd w vw K)(hK:K.length=176)(hX:By 5 w bx fL)(hb:Rd w vb b)(aO:b.length=16):
  Calls prog 189 #[vw,.slice (some ⟨bx,0,none⟩) 256 256,vb] w λe w'=>(∃ r,e=.returned r/\Ow 5 w' w.heap.size r (ed K b))/\Kp w w':=by
 have U:=aj;obtain⟨aw,cw,rfl,h1,h2⟩:=hw.shape;obtain⟨ab,cb,rfl,h3,h4⟩:=hb.shape;rw[hK] at hw h1 ⊢;rw[aO] at hb h3 ⊢;obtain⟨gw,ba,rfl,aJ,aM⟩:=hw.at 0 (by omega);obtain⟨gb,ob,rfl,bd,aN⟩:=hb.at 0 (by omega);have HW:=Lib.hid aM;have HB:=Lib.hid aN;have HX:=Lib.hid hX;have be:=hX.lt;clear aM aN hX hw hb;have HR:Hid ((List.replicate 16 (0:UInt8)).length=16):=JT;have HL:Hid (dw K b 10=ed K b):=rfl;have a6:Hid (tab 16 (λi=>b.getD i 0 ^^^ K.getD (16*0+i) 0)=dw K b 0):=rfl;go_enter func189,ntmps189;go_wp2_with(at_make;refine jb (z:=.int .u8 0) (b:=1) underlying24 info5 rfl (by decide) rfl _ _ rfl 16 rfl rfl (by omega) ?_;intro w1 y;have E:By 5 w1 w.heap.size (List.replicate 16 0):=(by rw[y];exact By.fresh _ _ _);have k0:Kp w w1:=(by rw[y];exact(Kp.refl _).alloc _);clear y)
 have ap:By 5 w1 w.heap.size (aG (List.replicate 16 0) (tab 16 (λi=>b.getD i 0 ^^^ K.getD (16*0+i) 0)) 0):=by rw[lV];exact E
 clear E;go_loopw[8] (λp wr=>∃ i:Nat,i<=16/\p=.int .i64 i/\By 5 wr w.heap.size (aG (List.replicate 16 0) (tab 16 (λi=>b.getD i 0 ^^^ K.getD (16*0+i) 0)) i)/\Kp w wr) (λp _=>16 - (intOf p).toNat)
 case atStart=>exact⟨0,by omega,rfl,ap,k0⟩
 case round=>
  clear ap k0;obtain⟨i,F,rfl,a,d⟩:=hrel;by_cases Q:i<16
  ·have q1:(i:Int)<16:=by omega
   have q2:(i:Int)<176:=by omega
   have hn:=pT (List.replicate 16 0) 16 (λi=>b.getD i 0 ^^^ K.getD (16*0+i) 0) i HR.out Q;have c0:=a.cell i (by rw[pU _ _ _ _ HR.out F];exact Q);have f0:=a.frozen i;have c1:=d.cell (HB.out i Q);have c2:=d.cell (HW.out i (by omega));have hx:=bV (b.getD i 0) (K.getD (16*0+i) 0);rw[show 16*0+i=i by omega] at hn hx;generalize hM:aG (List.replicate 16 0) (tab 16 (λi=>b.getD i 0 ^^^ K.getD (16*0+i) 0))=M at *;generalize b.getD i 0=Z at *;generalize K.getD i 0=X2 at *;generalize Z ^^^ X2=Y at *;have HN:=Lib.hid hn;clear hn hM;go_wp2_with fail;go_region
   all_goals
    go_wp2_with fail;go_roundw
    case rel=>exact⟨i+1,by omega,by go_num,a.set i _ HN.out,(Below.setCell d (p:=⟨w.heap.size,i,none⟩) (Ja _) _).drew⟩
    case measure=>simp[intOf];omega
  ·obtain rfl:i=16:=by omega
   rw[nY _ _ _ HR.out,a6.out] at a;clear Q F;go_wp2_with fail;rw[show((16:Nat):Int)=(16:Int) from rfl];go_loopw[9] (λp wr=>∃ n:Nat,1<=n/\n<=11/\p=.int .i64 n/\By 5 wr w.heap.size (dw K b (n - 1))/\Kp w wr) (λp _=>11 - (intOf p).toNat)
   case atStart=>exact⟨1,by omega,by omega,rfl,a,d⟩
   case round=>
    clear a d;obtain⟨n,bf,hn,rfl,a,d⟩:=hrel;by_cases Q:n<=10
    ·have q1:(n:Int)<=10:=by omega
     have v:=rx K b (n - 1);have aD:dw K b n=dL (if n<10 then du (cJ (dw K b (n - 1))) else cJ (dw K b (n - 1))) K n:=by
      obtain⟨m,rfl⟩:∃ m,n=m+1:=⟨n - 1,by omega⟩;rfl
     have az:=Lib.hid aD;clear aD;generalize hS:dw K b (n - 1)=S at *;have aW:w.heap.size<wr.heap.size:=a.lt;clear hS;go_wp2_with(at_make;refine jb (z:=.int .u8 0) (b:=1) underlying24 info5 rfl (by decide) rfl _ _ rfl 16 rfl rfl (by omega) ?_;intro w1 y;have ax:By 5 w1 wr.heap.size (List.replicate 16 0):=(by rw[y];exact By.fresh _ _ _);have aR:By 5 w1 w.heap.size S:=(by rw[y];exact a.kp ((Kp.refl _).alloc _));have k1:Kp w w1:=(by rw[y];exact d.alloc _);have aE:wr.heap.size<w1.heap.size:=(by rw[y];simp);clear y)
     obtain⟨o,aK⟩:∃ g,wr.heap.size=g:=⟨_,rfl⟩;rw[aK] at ax aE aW ⊢;clear a d aK;have ao:By 5 w1 o (aG (List.replicate 16 0) (cJ S) (4*0)):=by rw[MW,lV];exact ax
     clear ax;have bb:o≠w.heap.size:=by omega
     go_loopw[11] (λp wr=>∃ c:Nat,c<=4/\p=.int .i64 c/\By 5 wr o (aG (List.replicate 16 0) (cJ S) (4*c))/\By 5 wr w.heap.size S/\Kp w wr) (λp _=>4 - (intOf p).toNat)
     case atStart=>exact⟨0,by omega,rfl,ao,aR,k1⟩
     case round=>
      clear ao aR k1 aE;obtain⟨c,au,rfl,u,a,d⟩:=hrel;by_cases l:c<4
      ·have qc:(c:Int)<4:=by omega
       go_wp2_with fail;go_loopw[12] (λp wr=>∃ r:Nat,r<=4/\p=.int .i64 r/\By 5 wr o (aG (List.replicate 16 0) (cJ S) (4*c+r))/\By 5 wr w.heap.size S/\Kp w wr) (λp _=>4 - (intOf p).toNat)
       case atStart=>exact⟨0,by omega,rfl,u,a,d⟩
       case round=>
        clear u a d;obtain⟨r,aV,rfl,u,a,d⟩:=hrel;by_cases q:r<4
        ·have qr:(r:Int)<4:=by omega
         have ar:=EV c r l q;obtain⟨i,F⟩:∃ i,4*c+r=i:=⟨_,rfl⟩;obtain⟨m,hm⟩:∃ m,(c+r) % 4=m:=⟨_,rfl⟩;obtain⟨p,hp⟩:∃ p,4*m+r=p:=⟨_,rfl⟩;rw[F,hm,hp] at ar;rw[F] at u;have D:i<16:=by omega
         have aF:p<16:=by omega
         have hn:=pT (List.replicate 16 0) 16 (λm=>bS (S.getD (jK m) 0)) i HR.out D;rw[<-ar] at hn;have c0:=u.cell i (by unfold cJ;rw[pU _ _ _ _ HR.out (by omega)];exact D);have f0:=u.frozen i;have c1:=a.cell p (by rw[v];exact aF);have c2:=(HX.out.kp d).cell (S.getD p 0).toNat (by rw[nW];exact dj _);rw[pM] at c2;have aU:=dj (S.getD p 0);have i6:((S.getD p 0).toNat:Int)<256:=by omega
         have i7:IntKind.i64.wrap ((S.getD p 0).toNat:Int)=((S.getD p 0).toNat:Int):=IW _ (by omega);have aI:(aG (List.replicate 16 0) (cJ S) i).set i (bS (S.getD p 0))=aG (List.replicate 16 0) (cJ S) (i+1):=hn;have aA:=Lib.hid (show 4*c+(r+1)=i+1 by omega);generalize aG (List.replicate 16 0) (cJ S)=M at *;generalize S.getD p 0=Z at *;generalize bS Z=Y at *;have HN:=Lib.hid aI;have e1:IntKind.i64.wrap (4*(c:Int))=4*(c:Int):=IW _ (by omega);have e2:4*(c:Int)+(r:Int)=(i:Int):=by omega
         have e3:IntKind.i64.wrap (i:Int)=i:=IW _ (by omega);have e4:IntKind.i64.wrap ((c:Int)+(r:Int))=(c:Int)+(r:Int):=IW _ (by omega);have e5:((c:Int)+(r:Int)).tmod 4=(m:Int):=by rw[JF (by omega)];omega
         have e6:((c:Int)+(r:Int)) % 4=(m:Int):=by omega
         have e7:IntKind.i64.wrap (4*(m:Int))=4*(m:Int):=IW _ (by omega);have e8:4*(m:Int)+(r:Int)=(p:Int):=by omega
         have e9:IntKind.i64.wrap (p:Int)=p:=IW _ (by omega);have u1:(i:Int)<16:=by omega
         have u2:(p:Int)<16:=by omega
         clear hn aI F hm hp ar aU;go_wp2_with fail;go_roundw
         case rel=>exact⟨r+1,by omega,by go_num,by rw[aA.out];exact u.set i _ HN.out,(Below.heap_setCell _ ⟨o,i,none⟩ _ w.heap.size (by show w.heap.size≠o;omega)).trans a,Below.setCell d (p:=⟨o,i,none⟩) (by show w.heap.size<=o;omega) _⟩
         case measure=>simp[intOf];omega
        ·obtain rfl:r=4:=by omega
         rw[show 4*c+4=4*(c+1) by omega] at u;go_wp2_with fail;go_roundw
         case rel=>exact⟨c+1,by omega,by go_num,u,a,d⟩
         case measure=>simp[intOf];omega
      ·obtain rfl:c=4:=by omega
       have al:By 5 wr o (cJ S):=by
        have:=u;unfold cJ at this ⊢;rw[nY _ _ _ HR.out] at this;exact this
       clear u l au;have f:=lU S;have J:=xY (cJ S);have a9:=az;generalize aQ:cJ S=T at *;have bg:=Lib.hid aQ;clear aQ;have aX:o<wr.heap.size:=al.lt;go_wp2_with(at_builtin;refine bz U rfl _ _ rfl wr.heap.size _ [] rfl (Ow.lit wr _ _ 0 #[] [] (Ja _) rfl (by omega) rfl) _ T rfl ((al.rdAll (n:=16) (c:=16) (by rw[f]) (Ja _) (by unfold maxLen;omega)).kp ((Kp.refl _).alloc _)) (by rw[f];simp) (by simp) ?_;intro v2 w2 aH aL _)
       obtain⟨B,ay⟩:∃ B,wr.heap.size=B:=⟨_,rfl⟩;have H:Kp wr w2:=Kp.grown ((Kp.refl wr).alloc _) aL (λk e=>by cases e;exact Ja _);have L:=al.kp H;have x:=a.kp H;have ag:=d.trans H;have I:Ow 5 w2 B v2 T:=by rw[<-ay];simpa using aH
       rw[ay] at aX;clear aL aH al a d H;obtain⟨A,cu,rfl,z1,z2,z3,z4⟩:=pN I (by omega);rw[f] at I z3 ⊢;have aC:o≠A:=by omega
       have aT:w.heap.size≠A:=by omega
       clear ay;have aa:Ow 5 w2 B (.slice (some ⟨A,0,none⟩) 16 cu) (aG T (du T) (4*0)):=by rw[MW,lV];exact I
       clear I;by_cases am:n<10
       ·have qn:(n:Int)<10:=by omega
        go_loopw[14] (λp wr=>∃ c:Nat,c<=4/\p=.int .i64 c/\Ow 5 wr B (.slice (some ⟨A,0,none⟩) 16 cu) (aG T (du T) (4*c))/\By 5 wr o T/\By 5 wr w.heap.size S/\Kp w wr) (λp _=>4 - (intOf p).toNat)
        case atStart=>exact⟨0,by omega,rfl,aa,L,x,ag⟩
        case round=>
         clear aa L x ag;obtain⟨c,au,rfl,t,u,a,d⟩:=hrel;by_cases l:c<4
         ·have qc:(c:Int)<4:=by omega
          go_wp2_with fail;go_loopw[15] (λp wr=>∃ r:Nat,r<=4/\p=.int .i64 r/\Ow 5 wr B (.slice (some ⟨A,0,none⟩) 16 cu) (aG T (du T) (4*c+r))/\By 5 wr o T/\By 5 wr w.heap.size S/\Kp w wr) (λp _=>4 - (intOf p).toNat)
          case atStart=>exact⟨0,by omega,rfl,t,u,a,d⟩
          case round=>
           clear t u a d;obtain⟨r,aV,rfl,t,u,a,d⟩:=hrel;by_cases q:r<4
           ·have qr:(r:Int)<4:=by omega
            have an:=nX T c r l q;have P:(aG T (du T) (4*c+r)).set (4*c+r) ((du T).getD (4*c+r) 0)=aG T (du T) (4*c+r+1):=by
             refine gX _ _ (4*c+r) (by rw[f,J]) (by omega) _ ?_;rw[IU,IV (by rw[J];omega)];rfl
            have aq:(aG T (du T) (4*c+r)).length=16:=by rw[fR _ _ _ (by rw[f,J]) (by omega),f]
            rw[an] at P;obtain⟨m1,af⟩:∃ m,(r+1) % 4=m:=⟨_,rfl⟩;obtain⟨m2,ae⟩:∃ m,(r+2) % 4=m:=⟨_,rfl⟩;obtain⟨m3,ad⟩:∃ m,(r+3) % 4=m:=⟨_,rfl⟩;obtain⟨i,F⟩:∃ i,4*c+r=i:=⟨_,rfl⟩;obtain⟨C,ak⟩:∃ j,4*c+m1=j:=⟨_,rfl⟩;obtain⟨N,ai⟩:∃ j,4*c+m2=j:=⟨_,rfl⟩;obtain⟨X,ah⟩:∃ j,4*c+m3=j:=⟨_,rfl⟩;obtain⟨a1,t1,s1,b1,d1,u1,n1⟩:=sD c r 1 m1 C 1 rfl l q (by decide) af ak;obtain⟨a2,t2,s2,b2,d2,u2,n2⟩:=sD c r 2 m2 N 2 rfl l q (by decide) ae ai;obtain⟨a3,t3,s3,b3,d3,u3,n3⟩:=sD c r 3 m3 X 3 rfl l q (by decide) ad ah;obtain⟨e1,e2,e3,u0,D⟩:=EU c r i l q F;rw[af,ae,ad] at P;rw[F] at aq t;rw[F,ak,ai,ah] at P;obtain⟨c0,f0,av⟩:=sC t i (by rw[aq];exact D) (ec (T.getD i 0) (T.getD C 0) (T.getD N 0) (T.getD X 0));rw[P] at av;have k0:=u.cell i (by rw[f];exact D);have k1:=u.cell C (by rw[f];exact n1);have k2:=u.cell N (by rw[f];exact n2);have k3:=u.cell X (by rw[f];exact n3);have x1:=bV (bc (T.getD i 0) 2) (bc (T.getD C 0) 3);have x2:=bV (bc (T.getD i 0) 2 ^^^ bc (T.getD C 0) 3) (T.getD N 0);have x3:=bV (bc (T.getD i 0) 2 ^^^ bc (T.getD C 0) 3 ^^^ T.getD N 0) (T.getD X 0);rw[show bc (T.getD i 0) 2 ^^^ bc (T.getD C 0) 3 ^^^ T.getD N 0 ^^^ T.getD X 0=ec (T.getD i 0) (T.getD C 0) (T.getD N 0) (T.getD X 0) from rfl] at x3;have a4:Hid (∀ W,Calls prog 228 #[.int .u8 ((T.getD i 0).toNat:Int),.int .u8 2] W λe w'=>e=.returned (.int .u8 ((bc (T.getD i 0) 2).toNat:Int))/\W=w'):=λW=>pI (T.getD i 0) 2 W
            have a0:Hid (∀ W,Calls prog 228 #[.int .u8 ((T.getD C 0).toNat:Int),.int .u8 3] W λe w'=>e=.returned (.int .u8 ((bc (T.getD C 0) 3).toNat:Int))/\W=w'):=λW=>pI (T.getD C 0) 3 W
            have aA:=Lib.hid (show 4*c+(r+1)=i+1 by rw[<-F];rfl);have aJ:w.heap.size<=A:=by clear af ae ad ak ai ah s1 s2 s3 t1 t2 t3;omega
            generalize ec (T.getD i 0) (T.getD C 0) (T.getD N 0) (T.getD X 0)=Y at *;generalize (aG T (du T) i).getD i 0=Y0 at *;generalize bc (T.getD i 0) 2 ^^^ bc (T.getD C 0) 3 ^^^ T.getD N 0=Y2 at *;generalize bc (T.getD i 0) 2 ^^^ bc (T.getD C 0) 3=Y1 at *;generalize bc (T.getD i 0) 2=D1 at *;generalize bc (T.getD C 0) 3=D2 at *;generalize T.getD i 0=X0 at *;generalize T.getD C 0=Z at *;generalize T.getD N 0=X2 at *;generalize T.getD X 0=X3 at *;have O:∀ j V,wr.cell? ⟨o,j,none⟩=some V->((wr.setCell ⟨A,i,none⟩ (.int .u8 (Y.toNat:Int))).drew).cell? ⟨o,j,none⟩=some V:=λj V h=>(xT (Below.heap_setCell wr ⟨A,i,none⟩ (.int .u8 (Y.toNat:Int)) o aC) j).trans h
            have KD:Hid (wr.drew.cell? ⟨o,i,none⟩=some (.int .u8 (X0.toNat:Int))/\wr.drew.cell? ⟨o,C,none⟩=some (.int .u8 (Z.toNat:Int))/\wr.drew.cell? ⟨o,N,none⟩=some (.int .u8 (X2.toNat:Int))/\wr.drew.cell? ⟨o,X,none⟩=some (.int .u8 (X3.toNat:Int))):=⟨k0,k1,k2,k3⟩;have KS:=Lib.hid (Jb (O _ _ k0) (Jb (O _ _ k1) (Jb (O _ _ k2) (O _ _ k3))));have L:By 5 ((wr.setCell ⟨A,i,none⟩ (.int .u8 (Y.toNat:Int))).drew) o T:=(Below.heap_setCell wr ⟨A,i,none⟩ _ o aC).trans u;have x:By 5 ((wr.setCell ⟨A,i,none⟩ (.int .u8 (Y.toNat:Int))).drew) w.heap.size S:=(Below.heap_setCell wr ⟨A,i,none⟩ _ w.heap.size aT).trans a;have H:Kp w ((wr.setCell ⟨A,i,none⟩ (.int .u8 (Y.toNat:Int))).drew):=(Below.setCell d (p:=⟨A,i,none⟩) aJ _).drew;have aP:Ow 5 ((wr.setCell ⟨A,i,none⟩ (.int .u8 (Y.toNat:Int))).drew) B (.slice (some ⟨A,0,none⟩) 16 cu) (aG T (du T) (i+1)):=av;clear F ak ai ah af ae ad P aq an t av u a d O;have aZ:=Lib.hid L;have a8:=Lib.hid x;have a7:=Lib.hid H;have aY:=Lib.hid aP;clear L x H aP;go_wp2_with fail;go_region_held3 (λW=>W.cell? ⟨o,i,none⟩=some (.int .u8 (X0.toNat:Int))/\W.cell? ⟨o,C,none⟩=some (.int .u8 (Z.toNat:Int))/\W.cell? ⟨o,N,none⟩=some (.int .u8 (X2.toNat:Int))/\W.cell? ⟨o,X,none⟩=some (.int .u8 (X3.toNat:Int)))
             (first
              | (with_reducible exact KD.out)
              | (with_reducible exact KS.out))
             (first
              | (go_at_call 228;(with_reducible refine(a4.out _).mono ?_);rintro _ _ ⟨rfl,rfl⟩)
              | (go_at_call 228;(with_reducible refine(a0.out _).mono ?_);rintro _ _ ⟨rfl,rfl⟩))
            all_goals
             go_wp2_with fail;go_roundw
             case rel=>exact⟨r+1,by omega,by go_num,by rw[aA.out];exact aY.out,aZ.out,a8.out,a7.out⟩
             case measure=>simp[intOf];omega
           ·obtain rfl:r=4:=by omega
            rw[show 4*c+4=4*(c+1) by omega] at t;go_wp2_with fail;go_roundw
            case rel=>exact⟨c+1,by omega,by go_num,t,u,a,d⟩
            case measure=>simp[intOf];omega
         ·obtain rfl:c=4:=by omega
          rw[show 4*4=16 from rfl,show du T=tab 16 (λm=>ec (at4 T m 0) (at4 T m 1) (at4 T m 2) (at4 T m 3)) from rfl,nY _ _ _ f,show tab 16 (λm=>ec (at4 T m 0) (at4 T m 1) (at4 T m 2) (at4 T m 3))=du T from rfl] at t;have R:=Lib.hid J;generalize du T=V at *;clear l au u;go_wp2_with fail;rw[show((4:Nat):Int)=(4:Int) from rfl];have E:By 5 wr w.heap.size (aG S (dL V K n) 0):=by rw[lV];exact a
          go_loopw[16] (λp wr=>∃ i:Nat,i<=16/\p=.int .i64 i/\By 5 wr w.heap.size (aG S (dL V K n) i)/\Ow 5 wr B (.slice (some ⟨A,0,none⟩) 16 cu) V/\Kp w wr) (λp _=>16 - (intOf p).toNat)
          case atStart=>exact⟨0,by omega,rfl,E,t,d⟩
          case round=>
           clear a E t d;obtain⟨i,F,rfl,a,t,d⟩:=hrel;by_cases s:i<16
           ·have qi:(i:Int)<16:=by omega
            have G:(aG S (dL V K n) i).set i (V.getD i 0 ^^^ K.getD (16*n+i) 0)=aG S (dL V K n) (i+1):=pT S 16 (λi=>V.getD i 0 ^^^ K.getD (16*n+i) 0) i v s;have c0:=a.cell i (by rw[show dL V K n=tab 16 (λi=>V.getD i 0 ^^^ K.getD (16*n+i) 0) from rfl,pU _ _ _ _ v F];exact s);have f0:=a.frozen i;have c1:=(sC t i (by rw[R.out];exact s) 0).1;obtain⟨j,hj⟩:∃ j,16*n+i=j:=⟨_,rfl⟩;have c2:=d.cell (HW.out j (by omega));rw[hj] at G;have hx:=bV (V.getD i 0) (K.getD j 0);generalize hM:aG S (dL V K n)=M at *;generalize V.getD i 0=Z at *;generalize K.getD j 0=X2 at *;generalize Z ^^^ X2=Y at *;have aB:=Lib.hid G;have e1:IntKind.i64.wrap (16*(n:Int))=16*(n:Int):=IW _ (by omega);have e2:16*(n:Int)+(i:Int)=(j:Int):=by omega
            have e3:IntKind.i64.wrap (j:Int)=j:=IW _ (by omega);have u1:(j:Int)<176:=by omega
            clear G hM hj;go_wp2_with fail;go_region
            all_goals
             go_wp2_with fail;go_roundw
             case rel=>exact⟨i+1,by omega,by go_num,a.set i _ aB.out,(t.aside (k:=w.heap.size) (by omega) i _).kp (Kp.refl _).drew,(Below.setCell d (p:=⟨w.heap.size,i,none⟩) (Ja _) _).drew⟩
             case measure=>simp[intOf];omega
           ·obtain rfl:i=16:=by omega
            have x:By 5 wr w.heap.size (dw K b (n+1 - 1)):=by
             rw[show n+1 - 1=n by omega,az.out];have:=a;rw[show dL V K n=tab 16 (λi=>V.getD i 0 ^^^ K.getD (16*n+i) 0) from rfl,nY _ _ _ v] at this;rw[if_pos am];exact this
            clear a t;go_wp2_with fail;go_roundw
            case rel=>exact⟨n+1,by omega,by omega,by go_num,x,d⟩
            case measure=>simp[intOf];omega
       ·have qn:¬(n:Int)<10:=by omega
        go_loopw[14] (λp wr=>p=.int .i64 0/\Ow 5 wr B (.slice (some ⟨A,0,none⟩) 16 cu) (aG T (du T) (4*0))/\By 5 wr w.heap.size S/\Kp w wr) (λp _=>0)
        case atStart=>exact⟨rfl,aa,x,ag⟩
        case round=>
         clear aa L x ag;obtain⟨rfl,t,a,d⟩:=hrel;rw[MW,lV] at t;have R:=Lib.hid f;go_wp2_with fail;have E:By 5 wr w.heap.size (aG S (dL T K n) 0):=by rw[lV];exact a
         go_loopw[16] (λp wr=>∃ i:Nat,i<=16/\p=.int .i64 i/\By 5 wr w.heap.size (aG S (dL T K n) i)/\Ow 5 wr B (.slice (some ⟨A,0,none⟩) 16 cu) T/\Kp w wr) (λp _=>16 - (intOf p).toNat)
         case atStart=>exact⟨0,by omega,rfl,E,t,d⟩
         case round=>
          clear a E t d;obtain⟨i,F,rfl,a,t,d⟩:=hrel;by_cases s:i<16
          ·have qi:(i:Int)<16:=by omega
           have G:(aG S (dL T K n) i).set i (T.getD i 0 ^^^ K.getD (16*n+i) 0)=aG S (dL T K n) (i+1):=pT S 16 (λi=>T.getD i 0 ^^^ K.getD (16*n+i) 0) i v s;have c0:=a.cell i (by rw[show dL T K n=tab 16 (λi=>T.getD i 0 ^^^ K.getD (16*n+i) 0) from rfl,pU _ _ _ _ v F];exact s);have f0:=a.frozen i;have c1:=(sC t i (by rw[R.out];exact s) 0).1;obtain⟨j,hj⟩:∃ j,16*n+i=j:=⟨_,rfl⟩;have c2:=d.cell (HW.out j (by omega));rw[hj] at G;have hx:=bV (T.getD i 0) (K.getD j 0);generalize hM:aG S (dL T K n)=M at *;generalize T.getD i 0=Z at *;generalize K.getD j 0=X2 at *;generalize Z ^^^ X2=Y at *;have aB:=Lib.hid G;have e1:IntKind.i64.wrap (16*(n:Int))=16*(n:Int):=IW _ (by omega);have e2:16*(n:Int)+(i:Int)=(j:Int):=by omega
           have e3:IntKind.i64.wrap (j:Int)=j:=IW _ (by omega);have u1:(j:Int)<176:=by omega
           clear G hM hj;go_wp2_with fail;go_region
           all_goals
            go_wp2_with fail;go_roundw
            case rel=>exact⟨i+1,by omega,by go_num,a.set i _ aB.out,(t.aside (k:=w.heap.size) (by omega) i _).kp (Kp.refl _).drew,(Below.setCell d (p:=⟨w.heap.size,i,none⟩) (Ja _) _).drew⟩
            case measure=>simp[intOf];omega
          ·obtain rfl:i=16:=by omega
           have x:By 5 wr w.heap.size (dw K b (n+1 - 1)):=by
            rw[show n+1 - 1=n by omega,az.out];have:=a;rw[show dL T K n=tab 16 (λi=>T.getD i 0 ^^^ K.getD (16*n+i) 0) from rfl,nY _ _ _ v] at this;rw[if_neg am];exact this
           clear a t;go_wp2_with fail;go_roundw
           case rel=>exact⟨n+1,by omega,by omega,by go_num,x,d⟩
           case measure=>simp[intOf];omega
    ·obtain rfl:n=11:=by omega
     have aS:By 5 wr w.heap.size (ed K b):=by rw[<-HL.out];exact a
     have a5:=ry K b;have ho:Ow 5 wr w.heap.size (.slice (some ⟨w.heap.size,0,none⟩) 16 16) (ed K b):=By.ow5 aS (Ja _) (by rw[a5]) (by omega);clear a aS;go_wp2_with fail;go_ret;exact⟨⟨_,rfl,ho⟩,d⟩
theorem EY {P:Program}{a:TypeId}(c:P.underlying a=some (.array n e))(j:(P.info? a).map (·.size)=some n){b:Func}{p:Tmp}(d:b.results=#[.cell p a])(tmps:Array Value)(w:World)(g:Nat)(l:List UInt8)
  (f:tmps.getD p undef=.pointer (some ⟨g,0,none⟩)) (h:By T w g l) (i:l.length=n):(results b tmps).run P w=.ok (.agg (bD l)) w:=
 results_cell_row d tmps w g T (bD l) (0,0) _ f h c rfl (by rw[j,jr,i])
theorem EZ (gc F:Nat)(row N:List UInt8)(r:UInt8)(w:World)(c:row.length=16)(f:rz row r N)(C:w.cell? ⟨gc,0,none⟩=some (.pointer (some ⟨F,0,none⟩)))(A:By 283 w F fL):
  Calls prog 239 #[.pointer (some ⟨gc,0,none⟩),.agg (bD row),.int .u8 (r.toNat:Int)] w λe w'=>e=.returned (.agg (bD N))/\Kp w w':=by
 have h:=Lib.hid (Ct c f);have H1:Hid (∀ i,i<4->(aG row (ep row) i).set i (row.getD i 0 ^^^ bS (row.getD (12+(i+1) % 4) 0))=aG row (ep row) (i+1)):=λi a=>gX _ _ i (by rw[c,lE]) (by omega) _ (Cr row i (by omega))
 have J:Hid (∀ i j,i<=4->i<=j->(aG row (ep row) i).getD j 0=row.getD j 0):=λi j a hj=>pP _ _ i j (by rw[c,lE]) (by omega) hj
 have v:Hid (∀ i,i<=4->(aG row (ep row) i).length=16):=λi a=>by rw[fR _ _ i (by rw[c,lE]) (by omega),c]
 have T:Hid ((aG row (ep row) 4).getD 0 0=(ep row).getD 0 0):=by
  refine(nC _ _ 4 0 (by rw[c,lE]) (by omega)).trans ?_;rw[if_pos (by omega)]
 have P:aG row (ep row) 0=row:=by simp[aG]
 have H2:Hid (∀ i,i<12->(aG row N (i+4)).set (i+4) (row.getD (i+4) 0 ^^^ N.getD i 0)=aG row N (i+1+4)):=λi a=>by
  have O:=f.high (i+4) (by omega) (by omega);rw[KP] at O;rw[show i+1+4=i+4+1 by omega];refine gX _ _ (i+4) (by rw[c,f.len]) (by omega) _ ?_;rw[<-O,IU,IV (by rw[f.len];omega)];rfl
 have G2:Hid (∀ i,i<12->(aG row N (i+4)).getD (i+4) 0=row.getD (i+4) 0/\(aG row N (i+4)).getD i 0=N.getD i 0):=λi a=>by
  rw[nC _ _ (i+4) _ (by rw[c,f.len]) (by omega),nC _ _ (i+4) _ (by rw[c,f.len]) (by omega),if_neg (by omega),if_pos (by omega)];exact⟨rfl,rfl⟩
 have X:Hid (∀ i,i<=12->(aG row N (i+4)).length=16):=λi a=>by rw[fR _ _ (i+4) (by rw[c,f.len]) (by omega),c]
 have A2:Hid (aG row N (12+4)=N):=by
  have:=jA row N (by rw[c,f.len]);rw[f.len] at this;exact this
 have B0:By 231 (w.alloc (.cells (bD row) 231)) w.heap.size (aG row (ep row) 0):=by
  rw[P];exact By.new _ w row
 generalize ep row=M at *;have H:=f.len;clear f P;go_enter func239,ntmps239;go_wp2_with fail;have x:=B0.kp ((Kp.refl _).alloc (.cells (bD (List.replicate 16 0)) 231));have u:=By.new 231 (w.alloc (.cells (bD row) 231)) (List.replicate 16 0);rw[Jn] at u;have k:Kp w ((w.alloc (.cells (bD row) 231)).alloc (.cells (bD (List.replicate 16 0)) 231)):=((Kp.refl w).alloc _).alloc _;have t:bD (List.replicate 16 0)=#[Value.int IntKind.u8 0,Value.int IntKind.u8 0,Value.int IntKind.u8 0,Value.int IntKind.u8 0,Value.int IntKind.u8 0,Value.int IntKind.u8 0,Value.int IntKind.u8 0,Value.int IntKind.u8 0,Value.int IntKind.u8 0,Value.int IntKind.u8 0,Value.int IntKind.u8 0,Value.int IntKind.u8 0,Value.int IntKind.u8 0,Value.int IntKind.u8 0,Value.int IntKind.u8 0,Value.int IntKind.u8 0]:=rfl;rw[t] at x u k;obtain⟨G,q⟩:∃ W,(w.alloc (.cells (bD row) 231)).alloc (.cells #[Value.int IntKind.u8 0,Value.int IntKind.u8 0,Value.int IntKind.u8 0,Value.int IntKind.u8 0,Value.int IntKind.u8 0,Value.int IntKind.u8 0,Value.int IntKind.u8 0,Value.int IntKind.u8 0,Value.int IntKind.u8 0,Value.int IntKind.u8 0,Value.int IntKind.u8 0,Value.int IntKind.u8 0,Value.int IntKind.u8 0,Value.int IntKind.u8 0,Value.int IntKind.u8 0,Value.int IntKind.u8 0] 231)=W:=⟨_,rfl⟩;rw[q] at x u k ⊢;have C1:=k.cell C;have X1:=A.kp k;have ag:F<w.heap.size:=A.lt;have af:gc<w.heap.size:=Jz w _ C;clear q t B0 C A;go_loopw[11] (λp wr=>∃ i:Nat,i<=4/\p=.int .i64 i/\By 231 wr w.heap.size (aG row M i)/\Wr w.heap.size G wr) (λp _=>4 - (intOf p).toNat)
 case atStart=>exact⟨0,by omega,rfl,x,Wr.refl _ _⟩
 case round=>
  clear x;obtain⟨i,a,rfl,b,g⟩:=hrel;by_cases d:i<4
  ·have hq:(i:Int)<4:=by omega
   have K:(i:Int)<16:=by omega
   obtain⟨m,L⟩:∃ m,(i+1) % 4=m:=⟨_,rfl⟩;have ae:m<4:=by omega
   have E:=b.cell i (by rw[v.out i a];omega);rw[J.out i i a (Ja _)] at E;have D:=b.cell (12+m) (by rw[v.out i a];omega);rw[J.out i (12+m) a (by omega)] at D;have f1:=b.frozen i;have c3:=g.cell C1 (by show gc≠w.heap.size;omega);have c4:=(g.by X1 (by omega)).cell (row.getD (12+m) 0).toNat (by rw[nW];exact dj _);rw[pM] at c4;have l:=H1.out i d;rw[L] at l;have z:=bV (row.getD i 0) (bS (row.getD (12+m) 0));have y:=dj (row.getD (12+m) 0);have aa:((row.getD (12+m) 0).toNat:Int)<256:=by omega
   generalize row.getD (12+m) 0=U at *;generalize row.getD i 0=V at *;generalize bS U=Z at *;generalize V ^^^ Z=Y at *;have I:=Lib.hid l;have i1:IntKind.i64.wrap ((i:Int)+1)=(i:Int)+1:=IW _ (by omega);have i2:((i:Int)+1).tmod 4=(m:Int):=by rw[JF (by omega)];omega
   have i3:((i:Int)+1) % 4=(m:Int):=by omega
   have i4:(m:Int)<4:=by omega
   have i5:0<=(m:Int):=by omega
   clear l L y;go_wp2_with fail;go_region
   all_goals
    go_wp2_with fail;go_roundw
    case rel=>exact⟨i+1,by omega,by go_num,(b.set i _ I.out).drew,(g.setCell i _).drew⟩
    case measure=>simp[intOf];omega
  ·obtain rfl:i=4:=by omega
   have S:=b.cell 0 (by rw[v.out 4 a];omega);rw[T.out] at S;have f0:=b.frozen 0;have z:=bV (M.getD 0 0) r;have s:=b.set 0 _ h.out;have n:=g.setCell 0 (.int .u8 ((M.getD 0 0 ^^^ r).toNat:Int));generalize M.getD 0 0 ^^^ r=Y at *;generalize M.getD 0 0=V at *;clear h H1 J v T b g;go_wp2_with fail;generalize wr.setCell ⟨w.heap.size,0,none⟩ (.int .u8 (Y.toNat:Int))=W2 at *;clear S f0 z;go_loopw[38] (λp wr=>∃ i:Nat,i<=12/\p=.int .i64 i/\By 231 wr w.heap.size (aG row N (i+4))/\Wr w.heap.size G wr) (λp _=>12 - (intOf p).toNat)
   case atStart=>exact⟨0,by omega,rfl,s,n⟩
   case round=>
    clear s n;obtain⟨i,a,rfl,b,g⟩:=hrel;by_cases d:i<12
    ·have hq:(i:Int)<12:=by omega
     have ad:(i:Int)<16:=by omega
     have ab:(i:Int)+4<16:=by omega
     have E:=b.cell (i+4) (by rw[X.out i a];omega);have D:=b.cell i (by rw[X.out i a];omega);obtain⟨R,Q⟩:=G2.out i d;rw[R] at E;rw[Q] at D;have f1:=b.frozen (i+4);have l:=H2.out i d;have z:=bV (row.getD (i+4) 0) (N.getD i 0);generalize row.getD (i+4) 0=U at *;generalize N.getD i 0=V at *;generalize U ^^^ V=Y at *;have I:=Lib.hid l;have i1:IntKind.i64.wrap ((i:Int)+4)=(i:Int)+4:=IW _ (by omega);have i2:((i:Int)+4).toNat=i+4:=by omega
     have i3:(0:Int)<=(i:Int)+4:=by omega
     clear l R Q;go_wp2_with fail;go_region
     all_goals
      go_wp2_with fail;go_roundw
      case rel=>exact⟨i+1,by omega,by go_num,(b.set (i+4) _ I.out).drew,(g.setCell (i+4) _).drew⟩
      case measure=>simp[intOf];omega
    ·obtain rfl:i=12:=by omega
     rw[A2.out] at b;have hR:=g.by u (by omega);have hk:Kp w wr:=Below.trans (show Below w.heap.size w G from k) (g.below k.size (Ja _));clear d a g u k;go_wp2_with(first
      | (refine pO underlying231 (by kernel_rfl) rfl (.tmp 4) rfl w.heap.size N rfl b H ?_)
      | (refine sy (by kernel_rfl) rfl rfl (.tmp 6) (.tmp 51) rfl (w.heap.size+1) (List.replicate 16 0) N rfl rfl hR (by decide) H ?_;intro w5 B o))
     refine bodyPost_ret (EY underlying231 (by kernel_rfl) rfl _ _ (w.heap.size+1) N rfl B H) rfl ?_;exact⟨rfl,o.below hk (by omega)⟩

import Derived.Test.YthmhklmkgkfcpaaGreatDoorV6
import Derived.Test.YthmhklmkgkfcpaaGreatDoorV9
import Derived.Test.YthmhklmkgkfcpaaGreatDoorV10
set_option linter.all false
set_option maxHeartbeats 8000000
set_option maxRecDepth 100000
namespace Go.Proofs.YthmhklmkgkfcpaaGreatDoor
open Go.Proofs.Tryz Go.RowKit
variable {A a w w':World}{B b g k p:Nat}{T e:TypeId}{Y:Nat->Prop}{l:List UInt8}{v:Value}{xs:List Value}
theorem cR (w:World):Rd w (.slice none 0 0) []:=⟨none,0,rfl,IB _,IO _,λ_=>rfl,λx a=>by cases a⟩
theorem iI (l:List UInt8):(bH l).length=32:=tF _
theorem AU (v:Value)(l:List UInt8)(w:World)(h:Rd w v l)(d:l.length<=2000):
  Calls prog 211 #[v] w λe w'=>(∃ a c,e=.returned (.slice a 32 c)/\Rd w' (.slice a 32 c) (bH l))/\Kp w w':=by
 refine(AT v l w h d).mono ?_;rintro e w' ⟨⟨g,rfl,b⟩,f⟩;obtain⟨a,c,rfl,_,_⟩:=b.shape;rw[iI] at b ⊢;exact⟨⟨a,c,rfl,b⟩,f⟩
theorem tW (v:Value)(l:List UInt8)(w:World)(h:Rd w v l)(d:l.length<=2000):
  Calls prog 211 #[v] w λe w'=>(∃ a c,e=.returned (.slice a 32 c)/\Ow 5 w' w.heap.size (.slice a 32 c) (bH l))/\Kp w w':=by
 refine(tU v l w h d).mono ?_;rintro e w' ⟨⟨g,rfl,b⟩,f⟩;obtain⟨a,c,rfl,_,_⟩:=b.rd.shape;rw[iI] at b ⊢;exact⟨⟨a,c,rfl,b⟩,f⟩
theorem oH (k:List UInt8):(bN k).length=64:=by
 unfold bN;split
 ·exact tI _ (by rw[iI];omega)
 ·exact tI _ (by omega)
theorem tX (v:Value)(l:List UInt8)(w:World)(h:Rd w v l)(C:l.length<=2000):
  Calls prog 197 #[v] w λe w'=>(∃ g,e=.returned (.slice (some ⟨g,0,none⟩) 64 64)/\By 5 w' g (bN l)/\w.heap.size<=g)/\Kp w w':=by
 have U:=ag;obtain⟨a,c,rfl,F,D⟩:=h.shape;unfold maxLen at D;have u:Hid (∀ W:World,By 5 (W.alloc (.cells (Array.replicate 64 (.int .u8 0)) 5)) W.heap.size (List.replicate 64 0)):=λW=>By.fresh _ _ _
 have t:∀ k:List UInt8,k.length<=64->k++(List.replicate 64 (0:UInt8)).drop k.length=gZ k:=λk E=>by unfold gZ;rw[List.drop_replicate]
 have y:=Lib.hid t;clear t;by_cases o:64<l.length
 ·have p:bN l=gZ (bH l):=by unfold bN;rw[if_pos o]
  have s:=Lib.hid p;have x:=Lib.hid (iI l);have n:64<(l.length:Int):=by omega
  clear p;go_enter func197,ntmps197;go_wp2_with fail;refine(AU _ l _ h C).mono ?_;rintro e q ⟨⟨H,G,rfl,B⟩,r⟩;go_wp2_with(first
   | (at_make;refine kt (z:=.int .u8 0) (b:=1) underlying24 info5 rfl (by decide) rfl _ _ rfl 64 rfl rfl (by omega) ?_;intro w2 d;have m:By 5 w2 q.heap.size (List.replicate 64 0):=(by rw[d];exact u q);have f:Kp q w2:=(by rw[d];exact(Kp.refl _).alloc _);clear d)
   | (refine oG U rfl (.tmp 10) (.tmp 11) rfl 5 q.heap.size _ (bH l) (List.replicate 64 0) 64 64 rfl rfl m (by simp) (B.kp f) (by rw[x.out];omega) ?_;intro A i j))
  go_ret;rw[y.out _ (by rw[x.out];omega)] at i;refine⟨⟨_,rfl,by rw[s.out];exact i,r.size⟩,j.below (r.trans f) r.size⟩
 ·have p:bN l=gZ l:=by unfold bN;rw[if_neg o]
  have s:=Lib.hid p;have n:¬64<(l.length:Int):=by omega
  clear p;go_enter func197,ntmps197;go_wp2_with(first
   | (at_make;refine kt (z:=.int .u8 0) (b:=1) underlying24 info5 rfl (by decide) rfl _ _ rfl 64 rfl rfl (by omega) ?_;intro w2 d;have m:By 5 w2 w.heap.size (List.replicate 64 0):=(by rw[d];exact u w);have f:Kp w w2:=(by rw[d];exact(Kp.refl _).alloc _);clear d)
   | (refine oG U rfl (.tmp 10) (.tmp 11) rfl 5 w.heap.size _ l (List.replicate 64 0) 64 64 rfl rfl m (by simp) (h.kp f) (by omega) ?_;intro A i j))
  go_ret;rw[y.out _ (by omega)] at i;refine⟨⟨_,rfl,by rw[s.out];exact i,IB _⟩,j.below f (IB _)⟩
def cT (B:Nat->List UInt8):Nat->List UInt8
 | 0=>[]
 | i+1=>cT B i++B i
theorem mg (B:Nat->List UInt8)(h:∀ i,(B i).length=32):∀ N,(cT B N).length=32*N
 | 0=>rfl
 | N+1=>by rw[cT,IE,mg B h N,h N];omega
theorem AV (B:Nat->List UInt8)(i k:Nat):∃ r,cT B (i+k)=cT B i++r:=by
 induction k with
 | zero=>exact⟨[],by simp⟩
 | succ k ih=>obtain⟨r,a⟩:=ih;exact⟨r++B (i+k),by rw[<-Kw,cT,a,Kb]⟩
def iJ (B:Nat->List UInt8)(n:Nat):List UInt8:=(cT B ((n+31) / 32)).take n
theorem qF (B:Nat->List UInt8)(h:∀ i,(B i).length=32)(n N:Nat)(c:n<=32*N):iJ B n=(cT B N).take n:=by
 obtain⟨r,a⟩:=AV B ((n+31) / 32) (N - (n+31) / 32);have b:(n+31) / 32<=N:=by omega
 rw[show(n+31) / 32+(N - (n+31) / 32)=N by omega] at a;rw[a,Kf (by rw[mg B h];omega)];rfl
theorem mi (B:Nat->List UInt8)(h:∀ i,(B i).length=32)(n:Nat):(iJ B n).length=n:=by
 unfold iJ;rw[Ja,mg B h];omega
theorem AW (B:Nat->List UInt8)(h:∀ i,(B i).length=32)(n i j:Nat)(c:j<32)(b:32*i+(j+1)=n):cT B i++(B i).take (j+1)=iJ B n:=by
 have e:n - 32*i=j+1:=by omega
 have a:=mg B h i;rw[qF B h n (i+1) (by omega),cT,List.take_append,a,e,Jm (l:=cT B i) (by omega)]
theorem AX (B:Nat->List UInt8):iJ B 0=[]:=rfl
theorem It (B:Nat->List UInt8)(h:∀ i,(B i).length=32):iJ B 32=B 0:=by
 rw[qF B h 32 1 (by omega),cT,cT,Js,Jm (by rw[h];omega)]
theorem oI (k b:List UInt8):(eh k b).length=32:=iI _
theorem AY (k:List UInt8):bN (bN k)=bN k:=by
 have h:=oH k;obtain⟨K,a⟩:∃ K,bN k=K:=⟨_,rfl⟩;rw[a] at h ⊢;unfold bN gZ;rw[if_neg (by omega),h];simp
theorem AZ (k b:List UInt8):eh (bN k) b=eh k b:=by unfold eh;rw[AY]
def cZ (k info:List UInt8):Nat->List UInt8
 | 0=>eh k (info++be 1 1)
 | i+1=>eh k (cZ k info i++info++be 1 (i+2))
theorem iK (k info:List UInt8):∀ i,(cZ k info i).length=32
 | 0=>oI _ _
 | _+1=>oI _ _
def eI (k info:List UInt8):Nat->List UInt8
 | 0=>[]
 | i+1=>cZ k info i
theorem tY (k info:List UInt8)(i:Nat):cZ k info i=eh k (eI k info i++info++be 1 (i+1)):=by
 cases i with
 | zero=>simp[cZ,eI]
 | succ i=>rfl
theorem tZ (k info:List UInt8):∀ i,(eI k info i).length<=32
 | 0=>by simp[eI]
 | i+1=>by rw[eI,iK];omega
def ib (k info:List UInt8)(n:Nat):List UInt8:=iJ (cZ k info) n
theorem One.same {X:Nat->Prop}(h:One T w p v)(k:bc X w w')(a:¬X p):One T w' p v:=(k.block p h.lt a).trans h
theorem Ba (i n c:Nat)(x y:UInt8)(p o g:Nat)(s r:TypeId)(m:List UInt8)(w:World)(l:i<m.length)(j:m.length=n)(d:One s w p (.int .u8 (y.toNat:Int)))(f:One r w o (.slice (some ⟨g,0,none⟩) n c))(b:By 5 w g m)(h:n<=1000000):
  Calls prog 262 #[.int .i64 i,.int .u8 (x.toNat:Int),.pointer (some ⟨p,0,none⟩),.pointer (some ⟨o,0,none⟩)] w λe w'=>e=.returned (.tuple #[])/\w.setCell ⟨g,i,none⟩ (.int .u8 ((x ^^^ y).toNat:Int))=w':=by
 have u:=d.cell;have v:=f.cell;have A:=b.cell i l;have t:=b.frozen i;have q:=qC x y;have k:i<n:=by omega
 obtain⟨z,a⟩:∃ z:Int,z=((x ^^^ y).toNat:Int):=⟨_,rfl⟩;rw[<-a] at q ⊢;clear a j;go_enter func262,ntmps262;go_wp2_with fail;go_end0
 exact⟨rfl,rfl⟩
theorem Bb (l:List UInt8)(y:UInt8)(k:Nat)(h:k<l.length):(aP (List.replicate l.length 0) (bG l y) k).set k (l.getD k 0 ^^^ y)=aP (List.replicate l.length 0) (bG l y) (k+1):=
 iH _ _ k (by simp[jF]) (by simpa using h) _ (AF l y k h)
theorem Bc (v:Value)(l:List UInt8)(y:UInt8)(p o g c:Nat)(J I:TypeId)(w j:World)(h:Rd w v l)(P:l.length<=1000000)(D:Kp w j)(E:w.heap.size<=g)
  (N:One J j p (.int .u8 (y.toNat:Int))) (O:One I j o (.slice (some ⟨g,0,none⟩) l.length c)) (A:p≠g) (C:o≠g) (H:By 5 j g (List.replicate l.length 0)):
  Calls prog 260 #[v,.func (.func 262) #[] #[.pointer (some ⟨p,0,none⟩),.pointer (some ⟨o,0,none⟩)]] j λe w'=>e=.returned (.tuple #[])/\By 5 w' g (bG l y)/\bc (λk=>k=g) j w'/\Kp w w':=by
 obtain⟨a,X,rfl,W,R⟩:=h.shape;unfold maxLen at R;have T:=Lib.hid (Bb l y);have m:aP (List.replicate l.length 0) (bG l y) l.length=bG l y:=by
  have:=jE (List.replicate l.length 0) (bG l y) (by simp[jF]);rwa [jF] at this
 have U:=Lib.hid m;have t:aP (List.replicate l.length 0) (bG l y) 0=List.replicate l.length 0:=by simp[aP]
 have s:By 5 j g (aP (List.replicate l.length 0) (bG l y) 0):=by rw[t];exact H
 have K:Hid (∀ k,k<=l.length->(aP (List.replicate l.length 0) (bG l y) k).length=l.length):=λk D=>by
  rw[gx _ _ _ (by simp[jF]) (by simpa using D)];simp
 clear m t H;go_enter func260,ntmps260;go_wp2_with fail;go_loopw[8] (λi wr=>∃ k:Nat,k<=l.length/\i=.int .i64 k/\By 5 wr g (aP (List.replicate l.length 0) (bG l y) k)/\bc (λk=>k=g) j wr/\Kp w wr) (λi _=>(l.length - (intOf i).toNat))
 case atStart=>exact⟨0,by omega,rfl,s,bc.refl _ _,D⟩
 case round=>
  clear s;obtain⟨k,r,rfl,F,u,n⟩:=hrel;by_cases f:k<l.length
  ·obtain⟨b,L,rfl,_,d⟩:=h.at k f
   have Q:=n.cell (d k f);have z:=N.same u A;have B:=O.same u C;have S:=Lib.hid (Ba k l.length c (l.getD k 0) y p o g J I _ wr (by rw[K.out k r];exact f) (K.out k r) z B F P);have q:=T.out k f;have G:=Lib.hid q;clear q d;generalize M:l.getD k 0=x at *;clear M;go_wp2_with(go_at_call 262;refine S.out.mono ?_;rintro e V ⟨rfl,rfl⟩)
   go_roundw
   case rel=>exact⟨k+1,by omega,by go_num,F.set k _ G.out,u.setCell _ _ rfl,Below.setCell n E _⟩
   case measure=>simp[intOf];omega
  ·obtain rfl:k=l.length:=by omega
   go_wp2_with fail;go_end0
   exact⟨rfl,by rw[<-U.out];exact F,u,n⟩
theorem ua (v:Value)(l:List UInt8)(y:UInt8)(w:World)(h:Rd w v l)(r:l.length<=1000000):
  Calls prog 236 #[v,.int .u8 (y.toNat:Int)] w λe w'=>(∃ g,e=.returned (.slice (some ⟨g,0,none⟩) l.length l.length)/\By 5 w' g (bG l y)/\w.heap.size<=g)/\Kp w w':=by
 obtain⟨a,E,rfl,D,x⟩:=h.shape;unfold maxLen at x;have i:One 5 (w.alloc (.cells #[.int .u8 (y.toNat:Int)] 5)) w.heap.size (.int .u8 (y.toNat:Int)):=One.new _ _ _;have k:∀ W,W=(w.alloc (.cells #[.int .u8 (y.toNat:Int)] 5)).alloc (.cells (Array.replicate l.length (.int .u8 0)) 5)->By 5 W (w.heap.size+1) (List.replicate l.length 0):=λW u=>by
  subst u;have:=By.fresh 5 (w.alloc (.cells #[.int .u8 (y.toNat:Int)] 5)) l.length;rwa [IQ] at this
 have B:=Lib.hid k;have A:=Lib.hid i;clear k i;go_enter func236,ntmps236;go_wp2_with(at_make;refine kt (z:=.int .u8 0) (b:=1) underlying24 info5 rfl (by decide) rfl _ _ rfl l.length rfl rfl r ?_;intro f c;have j:=B.out f c;have m:One 5 f w.heap.size (.int .u8 (y.toNat:Int)):=(by rw[c];exact A.out.kp ((Kp.refl _).alloc _));have o:Kp w f:=(by rw[c];exact((Kp.refl w).alloc _).alloc _);have s:=j.lt;clear c)
 have d:One 24 (f.alloc (.cells #[.slice (some ⟨w.heap.size+1,0,none⟩) l.length l.length] 24)) f.heap.size (.slice (some ⟨w.heap.size+1,0,none⟩) l.length l.length):=One.new _ _ _;refine(Bc _ l y w.heap.size f.heap.size (w.heap.size+1) l.length _ _ w _ h r (o.alloc _) (by omega) (m.kp ((Kp.refl _).alloc _)) d (by omega) (by omega) (j.kp ((Kp.refl _).alloc _))).mono ?_;rintro e C ⟨rfl,p,q,n⟩;have t:=(d.same q (by omega)).cell;clear d;go_wp2_with fail;go_ret;exact⟨⟨_,rfl,p,by omega⟩,n⟩
section
open Go.Shelf
attribute [local go_sem] Oper.semAt_some
theorem One.step (h:One T w p v)(k:aj Y w w')(a:¬Y p):One T w' p v:=(k.block p h.lt a).trans h
theorem One.held (h:One T w p v)(k:aN Y w w')(a:Y p):One T w' p v:=(k.block p h.lt a).trans h
theorem Ow.lt (h:Ow e A B v l):∀ g,v.ownBlock=some g->g<A.heap.size:=λg a=>(Jw h g a).2
theorem Rd.held {R:Nat->Prop}{B:World}(h:Rd A v l)(m:aN R A B)(k:∀ b o n c,v=.slice (some ⟨b,o,none⟩) n c->R b):Rd B v l:=by
 obtain⟨a,c,rfl,t,s,r,j⟩:=h;refine⟨a,c,rfl,t,s,r,λx e i p=>?_⟩;have q:=j x e i p;subst e;obtain⟨b,o,d⟩:=x;have g:=Lu (j _ rfl 0 (by omega));have f:d=none:=by simpa [Addr.add] using g
 subst f;exact m.cell q (by
  have:((⟨b,o,none⟩:Addr).add i).block=b:=by unfold Addr.add;split <;> rfl
  rw[this];exact k b o _ c rfl)
theorem oJ {n c:Nat}(h:A.ownsRow b e 1 (.slice (some ⟨g,0,none⟩) n c) k xs)(d:aj Y A a)(f:¬Y g):a.ownsRow b e 1 (.slice (some ⟨g,0,none⟩) n c) k xs:=by
 refine⟨h.1,?_⟩;rcases h.2 with⟨hn,_⟩|⟨g',cap,cur,e',hb,hg,rest⟩
 ·cases hn
 ·have i:g=g':=by simpa [Value.ownBlock] using congrArg Value.ownBlock e'
  subst i;exact .inr ⟨g,cap,cur,e',hb,(d.block g (Iz.1 hg).1 f).trans hg,rest⟩
theorem Ow.kp' {f:World}(h:A.ownsRow b e 1 v k xs)(i:Kp A f):f.ownsRow b e 1 v k xs:=by
 refine⟨h.1,?_⟩;rcases h.2 with j|⟨g,c,a,rfl,l,d,rest⟩
 ·exact .inl j
 ·exact .inr ⟨g,c,a,rfl,l,(i.block g (Iz.1 d).1).trans d,rest⟩
theorem ud (w:World)(T:TypeId)(aa:Value):∀ j v,[aa][j]?=some v->(w.alloc (.cells #[aa] T)).cell? ((⟨w.heap.size,0,none⟩:Addr).add j)=some v:=by
 intro j v h
 cases j with
 | zero=>simp at h;subst h;exact(One.new T w aa).cell
 | succ j=>simp at h
theorem oK {w2:World}(k:Kp w a)(c:a.grownBy w2 (some g))(h:One T w p v)(b:p≠g):One T w2 p v:=
 (c.block p (h.kp k).lt (λe=>b (by cases e;rfl))).trans (h.kp k)
theorem Bd (n N:Nat)(B:Nat->List UInt8)(gf:Nat)(lb:Array Value)(R:Nat->Prop)(w:World)(hB:∀ i,(B i).length=32)(hn:n<=32*N)(al:n<=1000000)
  (eg:∀ args w,(callFunc gf args).run prog w=.ok (.enter gf args) w) (hR:∀ k,R k->k<w.heap.size)
  (ax:nO prog gf lb (λi v Y A=>Rd A v (B i)/\∀ b o n c,v=.slice (some ⟨b,o,none⟩) n c->Y b) N R w):
  Calls prog 169 #[.int .i64 n,.func (.func gf) #[] lb] w λe w'=>(∃ v,e=.returned v/\Ow 5 w' w.heap.size v (iJ B n))/\Kp w w':=by
 have U:=ag;obtain⟨i0,J,ae,I,aq⟩:=info_parts info5;by_cases h0:n=0
 ·subst h0
  rw[AX];go_enter func169,ntmps169;go_wp2;go_step3
  go_wp2_with(at_make;refine wpList_make_own _ rfl _ _ 24 rfl w.heap.size 5 i0 (.int .u8 0) 1 underlying24 J ae I _ _ _ 0 rfl rfl rfl (by omega) (by unfold maxLen;omega) (by simp) ?_;intro a t M;have O:=Below.grown (Below.refl _ _) M (IB _) (by intro k e;cases e);have C:=One.kp (One.new 3 w (.int .i64 0)) O;have cn:=C.cell;have ao:∀ o,(a.alloc o).cell? ⟨w.heap.size,0,none⟩=_:=(λo=>Kp.cell ((Kp.refl a).alloc o) cn);have T:=O.size;rw[IQ] at T)
  rw[Exit.noGoto_ret];go_ret;refine⟨⟨_,rfl,Ow.kp (l:=[]) (by rw[IQ] at t;exact t) ((Kp.refl _).alloc _)⟩,(((Kp.refl w).alloc _).trans O).alloc _⟩
 ·have aJ:¬(n:Int)=0:=by omega
  refine(callsIn_wide (n:=4)).1 ?_;refine callsIn_of_wp_marks func169 rfl trivial ?_ rfl;refine wpIn_wide.2 ?_;simp only[ntmps169,JE,JF,Jq,Jf,Nat.reduceAdd,Nat.reduceSub,JB,JC,JM,Js,JG];go_wp2;go_step3
  go_wp2_with(at_make;refine wpList_make_own _ rfl _ _ 24 rfl w.heap.size 5 i0 (.int .u8 0) 1 underlying24 J ae I _ _ _ n rfl rfl rfl (by rw[aq];omega) (by unfold maxLen;omega) (by simp) ?_;intro a t M;have O:=Below.grown (Below.refl _ _) M (IB _) (by intro k e;cases e);have C:=One.kp (One.new 3 w (.int .i64 n)) O;have cn:=C.cell;have ao:∀ o,(a.alloc o).cell? ⟨w.heap.size,0,none⟩=_:=(λo=>Kp.cell ((Kp.refl a).alloc o) cn);have T:=O.size;rw[IQ] at T)
  go_step3
  go_wp2;rw[IQ] at t;obtain⟨W0,F⟩:∃ W0,a.alloc (.cells #[.slice (some ⟨w.heap.size+1,0,none⟩) 0 n] 24)=W0:=⟨_,rfl⟩;have aI:W0.heap.size=a.heap.size+1:=by rw[<-F];simp
  have ab:One 24 W0 a.heap.size (.slice (some ⟨w.heap.size+1,0,none⟩) 0 n):=by rw[<-F];exact One.new _ _ _
  have k0:Kp a W0:=by rw[<-F];exact(Kp.refl _).alloc _
  have X:W0.ownsRow w.heap.size 5 1 (.slice (some ⟨w.heap.size+1,0,none⟩) 0 n) 0 (Lib.byteCells []):=Ow.kp (l:=[]) t k0;have Z:=C.kp k0;have ad:Kp w W0:=(((Kp.refl w).alloc _).trans O).trans k0;have az:w.heap.size+1<a.heap.size:=(Jw t _ rfl).2;rw[F];have HB:=Lib.hid hB;clear F t C cn ao M k0 hB O;refine sR (R:=R) rfl eg ad hR ax rfl
   (λi Y A=>One 24 A a.heap.size (.slice (some ⟨w.heap.size+1,0,none⟩) (32*i) n)/\A.ownsRow w.heap.size 5 1 (.slice (some ⟨w.heap.size+1,0,none⟩) (32*i) n) (32*i) (Lib.byteCells (cT B i))/\One 3 A w.heap.size (.int .i64 n)/\Kp w A/\32*i<n)
   (λc i Y A=>c=.exit 0/\One 24 A a.heap.size (.slice (some ⟨w.heap.size+1,0,none⟩) n n)/\A.ownsRow w.heap.size 5 1 (.slice (some ⟨w.heap.size+1,0,none⟩) n n) n (Lib.byteCells (iJ B n))/\Kp w A)
   ?mI ?mIx ?TT ⟨ab,X,Z,ad,by omega⟩
   (λv a' _=>a'={ tmps:=#[.int .i64 n,.func (.func gf) #[] lb,.pointer (some ⟨w.heap.size,0,none⟩),undef,.slice none 0 0,.pointer (some ⟨a.heap.size,0,none⟩),v,undef,undef,.int .i64 n,.slice (some ⟨w.heap.size+1,0,none⟩) 0 n,.int .i64 n,.bool false,undef,.func (.func gf) #[] lb,v,undef,undef,undef,undef,undef,undef,undef,undef,undef,undef,undef,undef,undef,undef,undef,undef],defers:=[] })
   (λ_ _ _ _ _ _ h _ _=>h) ?assign ?body ?done ?stop
  case mI=>
   rintro i Y Y' A A' ⟨r,g,H,s,P⟩ hY G hg;have u:∀ k,Y k->k≠a.heap.size/\k≠w.heap.size+1/\k≠w.heap.size:=λk y=>by have:=hY k y;omega
   exact⟨r.step G (λe=>(u _ e).1 rfl),oJ g G (λe=>(u _ e).2.1 rfl),H.step G (λe=>(u _ e).2.2 rfl),Below.trans s (G.below s.size (λk y=>by have:=hY k y;omega)),P⟩
  case mIx=>
   rintro c i Y Y' A A' ⟨h0,r,g,s⟩ hY G hg;have u:∀ k,Y k->k≠a.heap.size/\k≠w.heap.size+1/\k≠w.heap.size:=λk y=>by have:=hY k y;omega
   exact⟨h0,r.step G (λe=>(u _ e).1 rfl),oJ g G (λe=>(u _ e).2.1 rfl),Below.trans s (G.below s.size (λk y=>by have:=hY k y;omega))⟩
  case TT=>
   rintro i v Yi Y A A' l o ⟨hr,hv⟩ ar _ _ hl G;exact⟨hr.turn hl rfl G,λb o n c e=>ar _ (hv b o n c e)⟩
  case assign=>
   intro l i Y Yi v A K hI hT hK;gi_wp2
   exact hK _ _ (Kp.refl _) rfl
  case body=>
   rintro l i Y v a' A hi ⟨r,g,H,s,P⟩ au aO ⟨V,Q⟩ rfl;clear ab X Z;have am:=HB.out i;obtain⟨av,cv,rfl,q1,q2⟩:=V.shape;unfold maxLen at q2;rw[am] at Q q1;gi_wp2
   gi_loopw [18] (λp wr=>∃ j:Nat,j<=32/\p=.int .i64 j/\One 24 wr a.heap.size (.slice (some ⟨w.heap.size+1,0,none⟩) (32*i+j) n)/\wr.ownsRow w.heap.size 5 1 (.slice (some ⟨w.heap.size+1,0,none⟩) (32*i+j) n) (32*i+j) (Lib.byteCells (cT B i++(B i).take j))/\One 3 wr w.heap.size (.int .i64 n)/\Kp w wr/\aN (λk=>Y k\/R k) A wr/\32*i+j<n) (λp _=>32 - (intOf p).toNat)
   case atStart=>exact⟨0,by omega,rfl,r,by simpa using g,H,s,aN.refl _ _,P⟩
   case round=>
    clear r g H s P;obtain⟨j,hj,rfl,r,g,H,s,hh,P⟩:=hrel;by_cases aw:j<32
    ·obtain⟨b,ap,rfl,_,E⟩:=V.at j (by omega)
     have aM:=hh.cell (E j (by omega)) (.inl (Q b ap _ _ rfl));have aL:(j:Int)<32:=by omega
     have S:=nH (B i) j (by omega);have HH:=Lib.hid (λh=>AW B HB.out n i j aw h);rw[S] at HH;obtain⟨K,hK⟩:∃ K,32*i+j=K:=⟨_,rfl⟩;have HK:=Lib.hid hK;obtain⟨L,hL⟩:∃ L,cT B i++(B i).take j=L:=⟨_,rfl⟩;have HL:Hid (cT B i++(B i).take (j+1)=L++[(B i).getD j 0]):=by show _=_;rw[S,<-Kb,hL]
     rw[<-Kb,hL] at HH;have hg:w.heap.size+1<wr.heap.size:=(Jw g _ rfl).2;rw[hK] at r g P;rw[hL] at g;generalize hx:(B i).getD j 0=x at *;have ai:∀ k,Y k\/R k->k≠a.heap.size/\k≠w.heap.size+1:=λk y=>by
      rcases y with h|h
      ·have:=au k h;omega
      ·have:=hR k h;omega
     have aG:=Lib.hid ai;have c1:=r.cell;have aH:¬a.heap.size=w.heap.size:=by omega
     have ak:¬w.heap.size=a.heap.size:=by omega
     have aK:j<(B i).length:=by omega
     clear S hK hL E hx ai V Q am;have hq:decide ((K:Int)+1=n)=decide (K+1=n):=by congr 1;exact propext ⟨λh=>by omega,λh=>by omega⟩
     have ah:((K:Int)+1==(n:Int))=decide (K+1=n):=by rw[<-hq];rfl
     clear hq;have an:∀ w2:World,(wr.alloc (.cells #[.int .u8 (x.toNat:Int)] 5)).grownBy w2 (some (w.heap.size+1))->w2.ownsRow w.heap.size 5 1 (.slice (some ⟨w.heap.size+1,0,none⟩) (K+1) n) (K+1) (Lib.byteCells L++[.int .u8 (x.toNat:Int)]) ->
       One 24 w2 a.heap.size (.slice (some ⟨w.heap.size+1,0,none⟩) K n)->One 3 w2 w.heap.size (.int .i64 n)->∀ W,w2.setCell ⟨a.heap.size,0,none⟩ (.slice (some ⟨w.heap.size+1,0,none⟩) (K+1) n)=W ->
       One 24 W a.heap.size (.slice (some ⟨w.heap.size+1,0,none⟩) (K+1) n)/\W.ownsRow w.heap.size 5 1 (.slice (some ⟨w.heap.size+1,0,none⟩) (K+1) n) (K+1) (Lib.byteCells (L++[x]))/\One 3 W w.heap.size (.int .i64 n)/\Kp w W/\aN (λk=>Y k\/R k) A W:=by
      intro w2 d z f al W hW;subst hW;have ay:a.heap.size≠w.heap.size+1:=by omega
      refine⟨f.set _,?_,al.step ((aj.refl (λk=>k=a.heap.size) w2).setCell _ _ (.inr rfl)) (λe=>ak e),Below.setCell (Below.grown (Below.trans s (((Kp.refl wr).alloc _).mono s.size)) d (by have:=s.size;simp;omega) (λk e=>by cases e;omega)) (by simp;omega) _,?_⟩
      ·rw[pL]
       exact oJ z ((aj.refl (λk=>k=a.heap.size) w2).setCell _ _ (.inr rfl)) (λe=>ay e.symm)
      ·refine hh.trans ⟨IU (by simp) (IU d.size (by simp)),λk y hr=>?_⟩
       obtain⟨r,g⟩:=aG.out k hr;exact(Below.heap_setCell w2 _ _ k (λe=>r (by simpa using e))).trans ((d.block k (by simp;omega) (λe=>g (by cases e;rfl))).trans (Below.heap_alloc wr _ k y))
     by_cases q:K+1=n
     ·rw[IY q] at ah
      gi_wp2_with (gi_at_builtin;refine wpListIn_append_fits _ rfl _ _ 24 rfl w.heap.size 5 i0 1 U.ht J I (w.heap.size+1) K n _ rfl (Ow.kp' g ((Kp.refl _).alloc _)) ⟨wr.heap.size,0,none⟩ 1 1 [.int .u8 (x.toNat:Int)] rfl rfl (ud wr _ _) (by intro aa hu;simp at hu;subst hu;rfl) (by omega) ?_;intro w2 z d;have f:=oK ((Kp.refl wr).alloc (.cells #[.int .u8 (x.toNat:Int)] 5)) d r (by omega);have m:=oK ((Kp.refl wr).alloc (.cells #[.int .u8 (x.toNat:Int)] 5)) d H (by omega);have aF:=f.cell;have aD:=f.frozen;have aE:=m.cell)
      obtain⟨f1,f2,f3,f4,f5⟩:=an w2 d z f m _ rfl;rw[HH.out (by have:=HK.out;omega)] at f2;rw[q] at f1 f2 f4 f5;exact⟨f5,.inr ⟨_,rfl,rfl,f1,f2,f4⟩⟩
     ·rw[IS q] at ah
      gi_wp2_with (gi_at_builtin;refine wpListIn_append_fits _ rfl _ _ 24 rfl w.heap.size 5 i0 1 U.ht J I (w.heap.size+1) K n _ rfl (Ow.kp' g ((Kp.refl _).alloc _)) ⟨wr.heap.size,0,none⟩ 1 1 [.int .u8 (x.toNat:Int)] rfl rfl (ud wr _ _) (by intro aa hu;simp at hu;subst hu;rfl) (by omega) ?_;intro w2 z d;have f:=oK ((Kp.refl wr).alloc (.cells #[.int .u8 (x.toNat:Int)] 5)) d r (by omega);have m:=oK ((Kp.refl wr).alloc (.cells #[.int .u8 (x.toNat:Int)] 5)) d H (by omega);have aF:=f.cell;have aD:=f.frozen;have aE:=m.cell)
      obtain⟨f1,f2,f3,f4,f5⟩:=an w2 d z f m _ rfl;go_roundw
      case rel=>exact⟨j+1,by omega,by go_num,by rw[<-Kw,HK.out];exact f1,by rw[<-Kw,HK.out,HL.out];exact f2,f3,f4,f5,by have:=HK.out;omega⟩
      case measure=>simp[intOf];omega
    ·obtain rfl:j=32:=by omega
     have q:cT B i++(B i).take 32=cT B (i+1):=by rw[cT,Jm (by omega)]
     rw[q] at g;gi_wp2
     exact .inl ⟨r,g,P⟩
  case done=>
   rintro D Y W hD aC aB ⟨r,g,H,s,P⟩ hd;omega
  case stop=>
   rintro D c i Y W hD aC aB hi ⟨rfl,r,g,s⟩ hd;have c1:=r.cell;clear ab X Z;go_wp2;rw[Exit.noGoto_ret];have aA:=mi B HB.out n;have af:aj (λk=>k=D) W (W.putObj D (.deferred none)):=(aj.refl _ W).putObj _ _ (.inr rfl);refine⟨by simp,.inl ⟨_,_,rfl,run_takeDeferred hd,?_⟩⟩;refine⟨_,results_tmp rfl _ _ _,⟨_,rfl,?_⟩,Below.trans s (af.below s.size (λk y=>by omega))⟩;have H:=oJ g af (λe=>by omega);unfold Ow;rw[aA];exact H
end
theorem oL (x:Int)(w:World):
  Calls prog 134 #[.int .i64 x] w λe w'=>e=.returned (.bool (decide (1<=x/\x<=7)))/\w=w':=by
 by_cases a:1<=x
 ·have e:decide (1<=x/\x<=7)=decide (x<=7):=by simp[a]
  rw[e];go_enter func134,ntmps134;go_wp2;go_ret;exact⟨rfl,rfl⟩
 ·have e:decide (1<=x/\x<=7)=false:=by simp[a]
  go_enter func134,ntmps134;go_wp2;go_ret;exact⟨by simp,rfl⟩
theorem uf (k:Nat):(2:Int) ^ (8*k)=((256 ^ k:Nat):Int):=by
 rw[Nat.pow_mul' 2 8 k |> λ_=>show(256:Nat) ^ k=2 ^ (8*k) from by rw[Nat.pow_mul]];push_cast;rfl
theorem ky (n k:Nat):(n:Int)<256 ^ (k:Int).toNat↔n<256 ^ k:=by
 rw[IM,<-Int.ofNat_lt,Int.natCast_pow];rfl
theorem Bf (n k:Nat)(h:n<256 ^ k):((n:Int) / 2 ^ (8*k) != 0)=false:=by
 rw[uf,<-Int.natCast_ediv,Li h];rfl
theorem Bg (n k:Nat)(h:¬n<256 ^ k):((n:Int) / 2 ^ (8*k) != 0)=true:=by
 rw[uf,<-Int.natCast_ediv,Ki];have:0<n / 256 ^ k:=Nat.div_pos (by omega) (Nat.pos_of_ne_zero (by simp));omega
theorem jG (n k:Int)(w:World)(s:-9223372036854775808<=n/\n<=9223372036854775807):
  Calls prog 100 #[.int .i64 n,.int .i64 k] w λe w'=>∃ v,e=.returned (.tuple #[v,.int .i64 (iE n k)])/\Ow 5 w' w.heap.size v (eP n k)/\Kp w w':=by
 by_cases d:1<=k/\k<=7
 ·have p:decide (1<=k/\k<=7)=true:=by simp[d]
  obtain⟨g,f⟩:=d;by_cases l:n<0
  ·obtain⟨b,a⟩:=kn (n:=n) (w:=k) (by unfold eH;omega)
   rw[b,a];have o:decide (n<0)=true:=by simp[l]
   go_enter func100,ntmps100;go_wp2_with(go_at_call 134;refine(oL _ _).mono ?_;rintro e w' ⟨rfl,rfl⟩)
   go_ret2;exact⟨_,rfl,Ow.nil _ _ _,Kp.refl _⟩
  ·obtain⟨n,rfl⟩:=IR (show 0<=n by omega)
   obtain⟨k,rfl⟩:=IR (show 0<=k by omega);have o:decide ((n:Int)<0)=false:=by simp
   by_cases c:n<256 ^ k
   ·obtain⟨b,a⟩:=iZ (n:=n) (w:=k) ⟨g,f,by omega,(ky n k).2 c⟩
    have r:=Lib.hid b;have q:=Lib.hid a;have m:=Bf n k c;clear b a c;go_enter func100,ntmps100;go_wp2_with(first|(go_at_call 134;refine(oL _ _).mono ?_;rintro e w' ⟨rfl,rfl⟩)|(go_at_call 135;refine(ue _ _ _ (by omega) (by omega) (by omega)).mono ?_;rintro e w' ⟨v,rfl,i,j⟩))
    go_ret2;rw[r.out,q.out];exact⟨_,rfl,by simpa using i,j⟩
   ·obtain⟨b,a⟩:=kn (n:=n) (w:=k) (λh=>c ((ky n k).1 h.2.2.2))
    rw[b,a];have m:=Bg n k c;clear b a c;go_enter func100,ntmps100;go_wp2_with(first|(go_at_call 134;refine(oL _ _).mono ?_;rintro e w' ⟨rfl,rfl⟩))
    go_ret2;exact⟨_,rfl,Ow.nil _ _ _,Kp.refl _⟩
 ·have p:decide (1<=k/\k<=7)=false:=by simp[d]
  obtain⟨b,a⟩:=kn (n:=n) (w:=k) (by unfold eH;omega);rw[b,a];go_enter func100,ntmps100;go_wp2_with(go_at_call 134;refine(oL _ _).mono ?_;rintro e w' ⟨rfl,rfl⟩)
  go_ret2;exact⟨_,rfl,Ow.nil _ _ _,Kp.refl _⟩
section
open Go.Shelf
attribute [local go_sem] Oper.semAt_some
theorem Bh (k:Nat)(w:World):
  Calls prog 199 #[.int .i64 k] w λe w'=>e=.returned (.func (.func 234) #[] #[.pointer (some ⟨w.heap.size,0,none⟩)])/\w.alloc (.cells #[.int .i64 k] 3)=w':=by
 go_enter func199,ntmps199;go_wp2;go_ret;exact⟨rfl,rfl⟩
theorem Bi (k N b:Nat)(w:World)(hk:1<=k/\k<=6)(hN:256 ^ k=N+1)(x:w.cell? ⟨b,0,none⟩=some (.int .i64 k)):
  nO prog 234 #[.pointer (some ⟨b,0,none⟩)] (λi v _ A=>Rd A v (be k (i+1))) N (λj=>j=b) w:=by
 intro l J Jx W K ab aa P ad O R;have t:=K.cell x rfl;have T:=Lib.hid P;have HY:=Lib.hid O;have E:b<w.heap.size:=Jb w _ x;have L:(N:Int)<=281474976710656:=by
  have Q:256 ^ k<=256 ^ 6:=JH (by omega) hk.2;have h3:(256:Nat) ^ 6=281474976710656:=by decide
  omega
 have HN:Hid (∀ i,i<N->iE ((i:Int)+1) k=0/\eP ((i:Int)+1) k=be k (i+1)):=λi hi=>by
  obtain⟨h1,Q⟩:=iZ (n:=(i:Int)+1) (w:=k) ⟨by omega,by omega,by omega,by
   have:=(ky (i+1) k).2 (by omega);simpa using this⟩
  refine⟨h1,Q.trans ?_⟩;congr 1
 have HE:Hid (iE ((N:Int)+1) k=1):=by
  refine(kn (n:=(N:Int)+1) (w:=k) (λh=>?_)).1;have:=(ky (N+1) k).1 (by simpa using h.2.2.2);omega
 have HH:=Lib.hid (IC x E);have o:=Lib.hid K;clear P O hN x;refine(callsIn_wide (n:=5)).1 ?_;refine callsIn_of_wp func234 rfl trivial ?_ rfl;simp only[ntmps234,JE,JV,JF,Jf,Jq,Nat.reduceAdd,Nat.reduceSub,JB,JC,JM,Js,JG];gi_wp2
 gi_loopw [3] (λp wr=>∃ (i:Nat) (Y:Nat->Prop),i<=N/\p=.int .i64 ((i:Int)+1)/\wr.cell? ⟨b,0,none⟩=some (.int .i64 k)/\aN (λj=>j=b) w wr/\J i Y wr/\(∀ j,Y j->W.heap.size<=j/\j<wr.heap.size)/\W.heap.size<=wr.heap.size) (λp _=>N+1 - (intOf p).toNat)
 case atStart=>exact⟨0,_,by omega,rfl,t,o.out,R,λ_ h=>h.elim,IB _⟩
 case round=>
  clear t R;obtain⟨i,Y,hi,rfl,M,s,D,c,U⟩:=hrel;have X:prog.follows .mixedOrders=true:=by kernel_rfl
  have Z:prog.follows .lateStores=true:=by kernel_rfl
  by_cases g:i<N
  ·obtain⟨e1,e2⟩:=HN.out i g
   gi_wp2_with (refine⟨trivial,?_⟩;gi_at_call 100;refine(callsIn_wide.2 (jG ((i:Int)+1) k _ (by omega))).mono ?_;rintro e q ⟨H,rfl,u,f⟩;rw[e2] at u;have C:=T.out i Y Y wr q D c (aj.of_kp f) (λ_ h=>.inl h);have m:=f.cell M;have a:∀ j,Y j->W.heap.size<=j/\j<q.heap.size:=(λj h=>⟨(c j h).1,II (c j h).2 f.size⟩);have r:=s.trans (aN.of_kp f);have V:=f.size;obtain⟨fn,tmps,y,S,I,G⟩:=HY.out i Y q H 4 g C a r u.rd)
   clear D M c s u;refine G.mono ?_;rintro e w2 ⟨d,(⟨rfl,B⟩|⟨rfl,z⟩)⟩
   ·have F:=d.cell m (.inr rfl)
    clear I G m;gi_wp2
    go_roundw
    case rel=>exact⟨i+1,Y,by omega,by go_num,F,r.trans (d.mono (λ_ h=>.inr h)),B,λj h=>⟨(a j h).1,II (a j h).2 d.size⟩,by have:=d.size;omega⟩
    case measure=>simp[intOf];omega
   ·clear I G m
    gi_wp2
    refine bodyPost_ret (results_none rfl _ _ _) rfl ?_;exact⟨⟨_,rfl⟩,Y,λj h=>⟨(a j h).1,II (a j h).2 d.size⟩,.inr ⟨i,g,z⟩⟩
  ·obtain rfl:i=N:=by omega
   have e1:=HE.out;gi_wp2_with (refine⟨trivial,?_⟩;gi_at_call 100;refine(callsIn_wide.2 (jG ((i:Int)+1) k _ (by omega))).mono ?_;rintro e q ⟨H,rfl,u,f⟩)
   refine⟨λ_ h=>(by cases h),?_⟩;gi_wp2
   refine bodyPost_ret (results_none rfl _ _ _) rfl ?_;exact⟨⟨_,rfl⟩,Y,λj h=>⟨(c j h).1,II (c j h).2 f.size⟩,.inl (T.out i Y Y wr q D c (aj.of_kp f) (λ_ h=>.inl h))⟩
end
theorem info24:(prog.info? 24).map (λi=>(i.zero,i.size,i.bytes))=some (some (.slice none 0 0),1,24):=by kernel_rfl
theorem ug:bz prog 115 24:=bz.mk' underlying115 info24 (by decide) rfl
theorem uh (n v:Value)(lb:List UInt8)(ls:List (List UInt8))(w:World)(s:Rd w n lb)(h:RL w v ls)(N:0<lb.length)(P:lb.length+ls.flatten.length<=2000)(O:ls.length<1000000):
  Calls prog 235 #[n,v] w λe w'=>(∃ a c,e=.returned (.slice a 32 c)/\Ow 5 w' w.heap.size (.slice a 32 c) (bH (lb++ls.flatten)))/\Kp w w':=by
 have S:=ug;obtain⟨us,q,b,f⟩:=h;have t:∀ z∈us,z.oneCell'=true:=λz G=>by
  obtain⟨i,j,rfl⟩:=Jr G;have:=f i (by omega);rw[Iw,Iy j] at this;exact this.one
 have y:=Lib.hid (IC b t);have r:us.length<1000000:=by omega
 have H:=Lib.hid f;clear b t f;obtain⟨x,u,rfl,M,D⟩:=s.shape;obtain⟨T,Q,rfl,L,C⟩:=q.shape;unfold maxLen at D C;have I:=Lib.hid (nR w 24 (.slice x lb.length u));go_enter func235,ntmps235;go_wp2_with(at_builtin;refine pU S rfl _ _ rfl w.heap.size _ [.slice x lb.length u] rfl I.out _ us rfl (q.kp ((Kp.refl _).alloc _)) y.out.2 (by simp;omega) (by simp) ?_;intro o w2 g l;have d:Kp w w2:=Kp.grown ((Kp.refl _).alloc _) l (by intro k e;cases e;exact IB _))
 have m:RL w2 o (lb :: ls):=RL.cons g (s.kp d) y.out.1 (λi j=>(H.out i j).kp d);refine(kC o (lb :: ls) w2 m (by rw[Kj,IE];omega) (by rw[Kj,IE];omega) (by simp;omega)).mono ?_;rintro e K ⟨⟨A,rfl,E⟩,p⟩;go_wp2_with fail;refine(tW A (lb :: ls).flatten _ E.rd (by rw[Kj,IE];omega)).mono ?_;rintro e J ⟨⟨U,R,rfl,B⟩,F⟩;go_wp2_with fail;go_ret;exact⟨⟨_,_,rfl,by simpa using B.mono (d.trans p).size⟩,(d.trans p).trans F⟩
theorem ui (m v:Value)(k:List UInt8)(ls:List (List UInt8))(w:World)(J:Rd w m k)(h:RL w v ls)(p:k.length<=2000)(X:ls.flatten.length<=1900)(I:ls.length<1000000):
  Calls prog 201 #[m,v] w λe w'=>(∃ a c,e=.returned (.slice a 32 c)/\Ow 5 w' w.heap.size (.slice a 32 c) (eh k ls.flatten))/\Kp w w':=by
 have S:=ug;have b:=Lib.hid (oH k);have z:Hid (eh k ls.flatten=bH (bG (bN k) 92++bH (bG (bN k) 54++ls.flatten))):=rfl;have f:=Lib.hid (λy:UInt8=>jF (bN k) y);obtain⟨K,r⟩:∃ K,bN k=K:=⟨_,rfl⟩;rw[r] at b z f;have U:=Lib.hid iI;have x:=Lib.hid (tX m k w J p);rw[r] at x;clear r;go_enter func201,ntmps201;go_wp2_with fail;refine x.out.mono ?_;rintro e B ⟨⟨P,rfl,T,_⟩,o⟩;have s:Rd B (.slice (some ⟨P,0,none⟩) 64 64) K:=T.rdAll (by rw[b.out]) (IB _) (by unfold maxLen;omega);go_wp2_with fail;refine(ua _ K 92 _ s (by rw[b.out];omega)).mono ?_;rintro e w2 ⟨⟨O,rfl,R,_⟩,l⟩;have F:Rd w2 (.slice (some ⟨O,0,none⟩) 64 64) (bG K 92):=R.rdAll (by rw[f.out,b.out]) (IB _) (by unfold maxLen;omega);have d:K.length=64:=b.out;rw[d];clear d;go_wp2_with fail;refine(ua _ K 54 _ (s.kp l) (by rw[b.out];omega)).mono ?_;rintro e A ⟨⟨N,rfl,Q,_⟩,j⟩;have E:Rd A (.slice (some ⟨N,0,none⟩) 64 64) (bG K 54):=Q.rdAll (by rw[f.out,b.out]) (IB _) (by unfold maxLen;omega);have d:K.length=64:=b.out;rw[d];clear d;go_wp2_with fail;refine(uh _ _ (bG K 54) ls _ E (((h.kp o).kp l).kp j) (by rw[f.out,b.out];omega) (by rw[f.out,b.out];omega) I).mono ?_;rintro e g ⟨⟨u,t,rfl,D⟩,n⟩;have q:∀ W,Kp g W->W.ownsRow g.heap.size 24 1 (.slice (some ⟨g.heap.size,0,none⟩) 1 1) [Value.slice u 32 t].length [Value.slice u 32 t]->RL W (.slice (some ⟨g.heap.size,0,none⟩) 1 1) [bH (bG K 54++ls.flatten)]:=λW M H=>
  RL.cons (us:=[]) (ls:=[]) H (D.rd.kp M) rfl (λi L=>by simp at L)
 go_wp2_with fail;refine(uh _ _ (bG K 92) [bH (bG K 54++ls.flatten)] _ (((F.kp j).kp n).kp ((Kp.refl _).alloc _)) (q _ ((Kp.refl _).alloc _) (nR _ _ _)) (by rw[f.out,b.out];omega) (by rw[f.out,b.out];simp[U.out]) (by simp)).mono ?_;rintro e V ⟨⟨Z,Y,rfl,C⟩,G⟩;go_wp2_with fail;go_ret;exact⟨⟨_,_,rfl,by rw[z.out];simpa using C.mono ((((o.trans l).trans j).trans n).alloc _).size⟩,(((o.trans l).trans j).trans n).trans (((Kp.refl _).alloc _).trans G)⟩
theorem Bl (g v:Value)(k b:List UInt8)(w:World)(o:Rd w g k)(h:Rd w v b)(d:k.length<=2000)(n:b.length<=1900):
  Calls prog 171 #[g,v] w λe w'=>(∃ a c,e=.returned (.slice a 32 c)/\Ow 5 w' w.heap.size (.slice a 32 c) (eh k b))/\Kp w w':=by
 have f:∀ W,Kp w W->W.ownsRow w.heap.size 24 1 (.slice (some ⟨w.heap.size,0,none⟩) 1 1) [v].length [v]->RL W (.slice (some ⟨w.heap.size,0,none⟩) 1 1) [b]:=λW q m=>
  RL.cons (us:=[]) (ls:=[]) m (h.kp q) rfl (λi p=>by simp at p)
 obtain⟨y,u,rfl,t,s⟩:=h.shape;go_enter func171,ntmps171;go_wp2_with fail;refine(ui _ _ k [b] _ (o.kp ((Kp.refl _).alloc _)) (f _ ((Kp.refl _).alloc _) (nR _ _ _)) d (by simpa using n) (by simp)).mono ?_;rintro e r ⟨⟨z,x,rfl,j⟩,l⟩;go_wp2_with fail;go_ret;exact⟨⟨_,_,rfl,by simpa using j.mono ((Kp.refl _).alloc _).size⟩,((Kp.refl _).alloc _).trans l⟩
theorem uj (d v:Value)(k:List UInt8)(ls:List (List UInt8))(w:World)(l:Rd w d k)(h:RL w v ls)(b:k.length<=2000)(j:ls.flatten.length<=1900)(i:ls.length<1000000):
  Calls prog 200 #[d,v] w λe w'=>(∃ a c,e=.returned (.slice a 32 c)/\Ow 5 w' w.heap.size (.slice a 32 c) (eh k ls.flatten))/\Kp w w':=by
 go_enter func200,ntmps200;go_wp2_with fail;refine(ui _ _ k ls _ l h b j i).mono ?_;rintro e m ⟨⟨o,n,rfl,f⟩,g⟩;go_wp2_with fail;go_ret;exact⟨⟨_,_,rfl,f⟩,g⟩
theorem qG (k:Int)(w:World)(h:k<=7):
  Calls prog 110 #[.int .i64 k] w λe w'=>e=.returned (.int .i64 (pw k.toNat))/\w=w':=by
 by_cases c:0<=k
 ·obtain⟨k,rfl⟩:=IR c
  rw[IM];go_enter func110,ntmps110;go_wp2;go_loop [3,4] (λn i=>∃ j:Nat,j<=k/\i=.int .i64 j/\n=.int .i64 (pw j)) (λ_ i=>k - (intOf i).toNat)
  case atStart=>exact⟨0,IO _,rfl,rfl⟩
  case round=>
   obtain⟨j,d,rfl,rfl⟩:=hrel;by_cases b:j<k
   ·have f:=yJ j (by omega)
    have a:=Lib.hid (su j);go_wp2;go_round
    case rel=>exact⟨j+1,by omega,by go_num,by rw[a.out];go_num⟩
    case measure=>simp[intOf];omega
   ·go_wp2
    go_ret;have:j=k:=by omega
    subst this;exact⟨rfl,rfl⟩
 ·have e:k.toNat=0:=by omega
  rw[e];go_enter func110,ntmps110;go_wp2;refine wp_loop_rounds 1 ?_;rw[rounds_succ];go_wp2;go_ret;exact⟨rfl,rfl⟩
theorem Bo (k t n:Nat)(h:t<k):be (k - t) (n / pw t)=be (k - (t+1)) (n / pw (t+1))++[UInt8.ofNat (n / pw t)]:=by
 obtain⟨m,rfl⟩:∃ m,k=t+1+m:=⟨k - (t+1),by omega⟩;rw[show t+1+m - t=m+1 from by omega,show t+1+m - (t+1)=m from by omega,be,su,Ks 256,<-JS]
theorem uk (n k:Int)(w:World)(R:-9223372036854775808<=n/\n<=9223372036854775807):
  Calls prog 62 #[.int .i64 n,.int .i64 k] w λe w'=>∃ v,e=.returned (.tuple #[v,.int .i64 (iE n k)])/\Ow 5 w' w.heap.size v (eP n k)/\Kp w w':=by
 have U:=ag;by_cases f:eH n k
 ·obtain⟨j,g⟩:=iZ f
  have M:=Lib.hid j;have L:=Lib.hid g;clear j g;obtain⟨O,E,D,d⟩:=f;obtain⟨n,rfl⟩:=IR D;obtain⟨k,rfl⟩:=IR (show 0<=k by omega);have s:n<pw k:=(ky n k).1 d;clear d;have G:decide (pw k<=n)=false:=by simp;omega
  generalize m:w.heap.size=B at *;have A:=Lib.hid m;clear m;go_enter func62,ntmps62;go_wp2_with(go_at_call 110;refine(qG _ _ E).mono ?_;rintro e w' ⟨rfl,rfl⟩;rw[IM])
  go_loopw[6,7] (λv i wr=>∃ t:Nat,t<=k/\i=.int .i64 ((t:Int) - 1)/\Ow 5 wr B v (be (k - t) (n / pw t))/\Below B w wr) (λ_ i _=>(intOf i+1).toNat)
  case atStart=>exact⟨k,IB _,rfl,by rw[Lb];exact Ow.nil _ _ _,Below.refl _ _⟩
  case round=>
   obtain⟨t,P,rfl,a,b⟩:=hrel;cases t with
   | zero=>
    go_wp2_with fail;go_ret2;rw[M.out,L.out];exact⟨_,rfl,by simpa [pw] using a,b.mono (by rw[A.out];exact IB _)⟩
   | succ t=>
    rw[show((t+1:Nat):Int) - 1=t from by omega];have Q:=yI t;have T:=yK t (by omega);have m:=b.size;have r:B<=wr.heap.size:=by rw[<-A.out];exact m
    obtain⟨q,l⟩:∃ q:Nat,q=n / pw t:=⟨_,rfl⟩;have F:q<=n:=by rw[l];exact Mm _ _
    have S:(n:Int) / (pw t:Int)=(q:Int):=by rw[l];rfl
    have K:=Lib.hid l;clear l;go_wp2_with(first
     | (go_at_call 110;refine(qG _ _ (by omega)).mono ?_;rintro e w' ⟨rfl,rfl⟩;rw[IM])
     | (at_builtin;refine cj U rfl _ _ rfl B _ _ rfl (a.kp ((Kp.refl _).alloc _)) _ [UInt8.ofNat q] rfl ?c1 ?c2 ?c3 ?_))
    case c1=>exact Rd.box _ _ _ _ (by simp)
    case c2=>rw[bT];simp;omega
    case c3=>simp;omega
    intro N C c u _;have p:Below B w C:=Below.grown' (b.alloc r _) u (by simp;omega) (a.kp ((Kp.refl _).alloc _));clear u a;go_wp2;go_roundw
    case rel=>exact⟨t,by omega,rfl,by rw[Bo k t n (by omega),<-K.out];exact c,p⟩
    case measure=>simp[intOf]
 ·obtain⟨j,g⟩:=kn f
  rw[j,g];clear j g;by_cases z:k<1
  ·have J:decide (k<1)=true:=by simp[z]
   go_enter func62,ntmps62;go_wp2_with fail;go_ret2;exact⟨_,rfl,Ow.nil _ _ _,Kp.refl _⟩
  ·have J:decide (k<1)=false:=by simp[z]
   by_cases y:7<k
   ·have I:decide (7<k)=true:=by simp[y]
    go_enter func62,ntmps62;go_wp2_with fail;go_ret2;exact⟨_,rfl,Ow.nil _ _ _,Kp.refl _⟩
   ·have I:decide (7<k)=false:=by simp[y]
    by_cases x:n<0
    ·have H:decide (n<0)=true:=by simp[x]
     go_enter func62,ntmps62;go_wp2_with fail;go_ret2;exact⟨_,rfl,Ow.nil _ _ _,Kp.refl _⟩
    ·have H:decide (n<0)=false:=by simp[x]
     obtain⟨n,rfl⟩:=IR (show 0<=n by omega);obtain⟨k,rfl⟩:=IR (show 0<=k by omega);have o:pw k<=n:=by
      rcases Nat.lt_or_ge n (pw k) with h|h
      ·exact absurd ⟨by omega,by omega,by omega,(ky n k).2 h⟩ f
      ·exact h
     have V:decide (pw k<=n)=true:=by simp[o]
     clear f;go_enter func62,ntmps62;go_wp2_with(go_at_call 110;refine(qG _ _ (by omega)).mono ?_;rintro e w' ⟨rfl,rfl⟩;rw[IM])
     go_ret2;exact⟨_,rfl,Ow.nil _ _ _,Kp.refl _⟩
theorem Bp (n:Int)(w:World)(h:n<64):
  Calls prog 195 #[.int .i64 n] w λe w'=>e=.returned (.int .i64 0)/\w=w':=by
 go_enter func195,ntmps195;go_wp2;go_ret;exact⟨rfl,rfl⟩
theorem Bq (n:Int)(w:World)(a:64<=n)(h:n<16384):
  Calls prog 195 #[.int .i64 n] w λe w'=>e=.returned (.int .i64 1)/\w=w':=by
 go_enter func195,ntmps195;go_wp2;go_ret;exact⟨rfl,rfl⟩
theorem Bs (n:Int)(w:World)(a:16384<=n):
  Calls prog 195 #[.int .i64 n] w λe w'=>e=.returned (.int .i64 2)/\w=w':=by
 go_enter func195,ntmps195;go_wp2;go_ret;exact⟨rfl,rfl⟩
theorem qH (x m:Int)(b:0<=x)(d:x<64)(c:m=0\/m=64\/m=128):bits .or .u8 x m=x+m:=by
 have a:bits .or .u8 x m=bits .or .u8 m x:=by simp only[bits,BitVec.or_comm]
 rw[a,bits_join .u8 8 (by decide) wraps_u8 6 m x (by omega) (by omega) (by omega) b (by omega) (by omega)];omega
theorem Bt (k n m:Nat)(h:n / 256 ^ k+m<256):be (k+1) (n+m*256 ^ k)=UInt8.ofNat (n / 256 ^ k+m) :: be k n:=by
 rw[jy,Nat.add_mul_div_right _ _ (Nat.pow_pos (by decide))];congr 1
 have a:∀ k n m,be k (n+m*256 ^ k)=be k n:=by
  intro k;induction k with
  | zero=>intro n m;rfl
  | succ k ih=>
   intro n m;rw[be,be,show n+m*256 ^ (k+1)=n+256*(m*256 ^ k) from by rw[Ls,<-Lm,Ks 256],
    Nat.add_mul_div_left _ _ (by decide),ih]
   congr 2
   apply UInt8.toNat_inj.1;simp
 exact a k n m
theorem Ow.set0 {a n':Nat}(h:Ow 5 w B v (be a n'))(k n m:Nat)(b:n / 256 ^ k+m<256)(j:a=k+1:=by rfl)(i:n'=n:=by first|rfl|simp):
  ∃ g c,v=.slice (some ⟨g,0,none⟩) (k+1) c/\B<=g/\w.cell? ⟨g,0,none⟩=some (.int .u8 ((n / 256 ^ k:Nat):Int))/\w.frozen? ⟨g,0,none⟩=false /\
   Ow 5 (w.setCell ⟨g,0,none⟩ (.int .u8 ((n / 256 ^ k+m:Nat):Int))) B v (be (k+1) (n+m*256 ^ k)):=by
 subst j i;rcases h.shape with⟨_,h0⟩|⟨g,c,rfl,hg,_,hc,hcm⟩
 ·have:=congrArg List.length h0
  rw[bT] at this;simp at this
 ·have d:(be (k+1) n').length=k+1:=bT _ _
  refine⟨g,c,by rw[d],hg,?_,h.frozenAt 0,?_⟩
  ·rw[h.cellAt 0 (by rw[d];omega),jy]
   have:n' / 256 ^ k % 256=n' / 256 ^ k:=JO (by omega);simp[Lib.byteCells,this]
  ·have f:=(h.stored 0 (.int .u8 ((n' / 256 ^ k+m:Nat):Int))).1
   unfold Ow;rw[bT,Bt k n' m b];rw[bT,jy] at f;generalize n' / 256 ^ k=q at *;have:(q+m) % 256=q+m:=JO b;have e:Lib.byteCells (UInt8.ofNat (q+m) :: be k n')=(Lib.byteCells (UInt8.ofNat q :: be k n')).set 0 (.int .u8 ((q+m:Nat):Int)):=by
    simp only[Lib.byteCells,List.map_cons,Je,Ko,Nat.reducePow,this]
   rw[e,Jf,bT];exact f
theorem qI (n k:Int)(w:World)(a:0<=n)(c:1<=k)(b:k<=7):
  Calls prog 135 #[.int .i64 n,.int .i64 k] w λe w'=>∃ v,e=.returned v/\Ow 5 w' w.heap.size v (be k.toNat n.toNat)/\Kp w w':=by
 obtain⟨k,rfl⟩:=IR (show 0<=k by omega);exact ue n k w a (by omega) (by omega)
theorem qJ (n:Int)(w:World):
  Calls prog 167 #[.int .i64 n] w λe w'=>∃ v,e=.returned (.tuple #[v,.int .i64 (et n)])/\Ow 5 w' w.heap.size v (dm n)/\Kp w w':=by
 by_cases q:n<0
 ·have u:decide (n<0)=true:=by simp[q]
  have d:et n=1:=if_pos (.inl q);have f:dm n=[]:=by simp[dm,d]
  rw[d,f];clear d f;go_enter func167,ntmps167;go_wp2_with fail;go_ret2;exact⟨_,rfl,Ow.nil _ _ _,Kp.refl _⟩
 ·have u:decide (n<0)=false:=by simp[q]
  by_cases p:1073741823<n
  ·have t:decide (1073741823<n)=true:=by simp[p]
   have d:et n=1:=if_pos (.inr p);have f:dm n=[]:=by simp[dm,d]
   rw[d,f];clear d f;go_enter func167,ntmps167;go_wp2_with fail;go_ret2;exact⟨_,rfl,Ow.nil _ _ _,Kp.refl _⟩
  ·have t:decide (1073741823<n)=false:=by simp[p]
   obtain⟨n,rfl⟩:=IR (show 0<=n by omega);have d:et n=0:=if_neg (by omega);have f:dm n=cm n:=by simp[dm,d]
   rw[d,f];clear d f;by_cases o:n<64
   ·have m:Hid (cm n=be 1 (n+0*256 ^ 0)):=by show cm n=be 1 (n+0*256 ^ 0);simp[cm,o]
    have h:bits .or .u8 (n:Int) 0=n:=by rw[qH _ _ (by omega) (by omega) (by omega)];omega
    go_enter func167,ntmps167;go_wp2_with(first|(go_at_call 195;refine(Bp _ _ (by omega)).mono ?_;rintro e w' ⟨rfl,rfl⟩)|(go_at_call 135;refine(qI _ 1 _ (by omega) (by omega) (by omega)).mono ?_;rintro e r ⟨v,rfl,i,j⟩;obtain⟨g,c,rfl,k,a,l,b⟩:=i.set0 0 n 0 (by simp;omega);simp at a))
    go_ret2;refine⟨_,rfl,?_,Below.setCell j k _⟩;rw[m.out];simpa using b
   ·by_cases s:n<16384
    ·have m:Hid (cm n=be 2 (n+64*256 ^ 1)):=by show cm n=be 2 (n+64*256 ^ 1);simp[cm,o,s]
     have h:bits .or .u8 ((n:Int) / 256) 64=(n:Int) / 256+64:=qH _ _ (by omega) (by omega) (by omega);go_enter func167,ntmps167;go_wp2_with(first|(go_at_call 195;refine(Bq _ _ (by omega) (by omega)).mono ?_;rintro e w' ⟨rfl,rfl⟩)|(go_at_call 135;refine(qI _ 2 _ (by omega) (by omega) (by omega)).mono ?_;rintro e r ⟨v,rfl,i,j⟩;obtain⟨g,c,rfl,k,a,l,b⟩:=i.set0 1 n 64 (by omega);simp at a))
     go_ret2;refine⟨_,rfl,?_,Below.setCell j k _⟩;rw[m.out];simpa using b
    ·have m:Hid (cm n=be 4 (n+128*256 ^ 3)):=by show cm n=be 4 (n+128*256 ^ 3);simp[cm,o,s]
     have h:bits .or .u8 ((n:Int) / 16777216) 128=(n:Int) / 16777216+128:=qH _ _ (by omega) (by omega) (by omega);go_enter func167,ntmps167;go_wp2_with(first|(go_at_call 195;refine(Bs _ _ (by omega)).mono ?_;rintro e w' ⟨rfl,rfl⟩)|(go_at_call 135;refine(qI _ 4 _ (by omega) (by omega) (by omega)).mono ?_;rintro e r ⟨v,rfl,i,j⟩;obtain⟨g,c,rfl,k,a,l,b⟩:=i.set0 3 n 128 (by omega);simp at a))
     go_ret2;refine⟨_,rfl,?_,Below.setCell j k _⟩;rw[m.out];simpa using b
theorem Fu (i n:Nat)(x y z:UInt8)(p o b a c:Nat)(s r:TypeId)(w:World)(u:i<n)(t:n<=c)(q:c<=maxLen)(j:One s w p (.int .u8 (z.toNat:Int)))(k:One r w o (.slice (some ⟨b,a,none⟩) n c))
  (f:w.cell? ⟨b,a+i,none⟩=some (.int .u8 (y.toNat:Int))) (d:UInt8) (h:z ||| (x ^^^ y)=d):
  Calls prog 261 #[.int .i64 i,.int .u8 (x.toNat:Int),.pointer (some ⟨p,0,none⟩),.pointer (some ⟨o,0,none⟩)] w λe w'=>e=.returned (.tuple #[])/\∃ n,w'=(w.setCell ⟨p,0,none⟩ (.int .u8 (d.toNat:Int))).drewN n:=by
 have B:=j.cell;have A:=j.frozen;have C:=k.cell;have v:=qC x y;have g:=AH z (x ^^^ y);rw[h] at g;unfold maxLen at q;have l:(i:Int)<(n:Int):=by omega
 have m:(0:Int)<=(i:Int):=by omega
 generalize d.toNat=Z at *;generalize (x ^^^ y).toNat=D at *;clear h;go_enter func261,ntmps261;go_wp2_with fail;go_region
 all_goals
  go_end0
  exact⟨rfl,1,rfl⟩
theorem Fv (l m:List UInt8)(k:Nat):orT l m k ||| (l.getD k 0 ^^^ m.getD k 0)=orT l m (k+1):=rfl
theorem One.drewN (h:One T w p v)(n:Nat):One T (w.drewN n) p v:=h.kp ((Kp.refl w).drewN n)
theorem Fw (v aa:Value)(l m:List UInt8)(p o:Nat)(s H:TypeId)(w j:World)(h:Rd w v l)(C:Rd w aa m)(r:l.length=m.length)(M:Kp w j)(t:w.heap.size<=p)
  (D:One s j p (.int .u8 0)) (K:One H j o aa) (y:o≠p):
  Calls prog 260 #[v,.func (.func 261) #[] #[.pointer (some ⟨p,0,none⟩),.pointer (some ⟨o,0,none⟩)]] j λe w'=>e=.returned (.tuple #[])/\One s w' p (.int .u8 ((orT l m l.length).toNat:Int))/\Kp w w':=by
 obtain⟨a,W,rfl,V,O⟩:=h.shape;obtain⟨X,P,rfl,B,A⟩:=C.shape;unfold maxLen at O;have S:=Lib.hid r;have G:One s j p (.int .u8 ((orT l m 0).toNat:Int)):=D;have E:l.length<=m.length:=by omega
 clear r D;go_enter func260,ntmps260;go_wp2_with fail;go_loopw[8] (λi wr=>∃ k:Nat,k<=l.length/\i=.int .i64 k/\One s wr p (.int .u8 ((orT l m k).toNat:Int))/\bc (λk=>k=p) j wr/\Kp w wr) (λi _=>(l.length - (intOf i).toNat))
 case atStart=>exact⟨0,by omega,rfl,G,bc.refl _ _,M⟩
 case round=>
  clear G;obtain⟨k,L,rfl,z,F,f⟩:=hrel;by_cases q:k<l.length
  ·obtain⟨b,I,rfl,_,d⟩:=h.at k q
   obtain⟨Q,n,rfl,_,c⟩:=C.at k (by omega);have N:=f.cell (d k q);have g:=f.cell (c k (by omega));have u:=K.same F y;have R:=Lib.hid (Fu k m.length (l.getD k 0) (m.getD k 0) (orT l m k) p o Q n P s H wr (by omega) B A z u g _ (Fv l m k));clear d c g;generalize J:l.getD k 0=x at *;clear J;go_wp2_with(go_at_call 261;refine R.out.mono ?_;rintro e T ⟨rfl,U,rfl⟩)
   go_roundw
   case rel=>exact⟨k+1,by omega,by go_num,(z.set _).drewN _,(F.setCell _ _ rfl).drewN _,Kp.drewN (Below.setCell f t _) _⟩
   case measure=>simp[intOf];omega
  ·obtain rfl:k=l.length:=by omega
   go_wp2_with fail;go_end0
   exact⟨rfl,z,f⟩
theorem Fx (aa v:Value)(l m:List UInt8)(w:World)(h:Rd w aa l)(q:Rd w v m):
  Calls prog 233 #[aa,v] w λe w'=>e=.returned (.bool (decide (l=m)))/\Kp w w':=by
 obtain⟨a,c,rfl,C,r⟩:=h.shape;obtain⟨i,g,rfl,s,o⟩:=q.shape;unfold maxLen at r o;have d:One 24 (w.alloc (.cells #[.slice i m.length g] 24)) w.heap.size (.slice i m.length g):=One.new _ _ _;have y:=Lib.hid d;have D:=d.cell;clear d;by_cases b:l.length=m.length
 ·have u:((l.length:Int) != (m.length:Int))=false:=by simp[b]
  have t:(l.length != m.length)=false:=by simp[b]
  have A:=Lib.hid (AK l m b);have z:=Lib.hid b;clear b;go_enter func233,ntmps233;go_wp2_with fail;have k:One 5 ((w.alloc (.cells #[.slice i m.length g] 24)).alloc (.cells #[.int .u8 0] 5)) (w.heap.size+1) (.int .u8 0):=by
   have:=One.new 5 (w.alloc (.cells #[.slice i m.length g] 24)) (.int .u8 0);rwa [IQ] at this
  refine(Fw _ _ l m (w.heap.size+1) w.heap.size _ _ w _ h q z.out (((Kp.refl _).alloc _).alloc _) (by omega) k (y.out.kp ((Kp.refl _).alloc _)) (by omega)).mono ?_;rintro e B ⟨rfl,j,n⟩;have E:=j.cell;have p:((((orT l m l.length).toNat:Nat):Int)==0)=decide (l=m):=by
   rw[<-A.out,Bool.eq_iff_iff];simp[<-UInt8.toNat_inj]
  generalize (orT l m l.length).toNat=Z at *;have x:=Lib.hid p;clear p;go_wp2_with fail;go_ret;exact⟨by rw[<-x.out];rfl,n⟩
 ·have u:((l.length:Int) != (m.length:Int))=true:=by simp;omega
  have t:(l.length != m.length)=true:=by simp[b]
  have f:decide (l=m)=false:=IS (λe=>b (by rw[e]));rw[f];clear f b;go_enter func233,ntmps233;go_wp2_with fail;go_ret;exact⟨rfl,(Kp.refl _).alloc _⟩

import Derived.Test.YthmhklmkgkfcpaaGreatDoorW3
import Derived.Test.YthmhklmkgkfcpaaGreatDoorW8
import Derived.WalkMore
set_option linter.all false
set_option maxHeartbeats 8000000
set_option maxRecDepth 100000
namespace Go.Proofs.YthmhklmkgkfcpaaGreatDoor
open Go.Proofs.Tryz Go.RowKit
variable {A B w w':World}{P:Program}{Q:Exit->Act->World->Prop}{T e t:TypeId}{Y:Nat->Prop}{a:Act}{b g k p:Nat}{d l:List UInt8}{o:Oper}{v:Value}{xs:List Value}
structure bK (P:Program)(t e:TypeId):Prop where
 ht:P.underlying t=some (.slice e)
 hi:∃ i z,P.info? e=some i/\i.zero=some z/\i.size=1/\i.bytes<=64/\z.cells.size=1
theorem bK.mk' {z:Value}(g:P.underlying t=some (.slice e))(h:(P.info? e).map (λi=>(i.zero,i.size,i.bytes))=some (some z,1,b))(k:b<=64)(f:z.cells.size=1):bK P t e:=by
 obtain⟨i,j,c,a,d⟩:=info_parts h;exact⟨g,i,z,j,c,a,by omega,f⟩
theorem qz (S:bK P t e){l:Array Oper}{rest:List Oper}(q:o.guard=none)(s x:Operand)
  (K:o.op=.call { callee:=.builtin .append,args:=#[s,x],argTypes:=#[t,t] })
  (B:Nat) (v:Value) (us:List Value) (J:a.eval s=v) (b:w.ownsRow B e 1 v us.length us) (u:Value) (d:List Value) (I:a.eval x=u) (N:cX w u d) (H:∀ z∈d,z.oneCell'=true)
  (n:us.length+d.length<=1000000000000) (k:B<=w.heap.size)
  (h:∀ r w',w'.ownsRow B e 1 r (us++d).length (us++d)->w.grownBy w' v.ownBlock->wpList P l Q rest (a.put o.dst r) w'):wpList P l Q (o :: rest) a w:=by
 obtain⟨i,z,L,M,f,G,C⟩:=S.hi
 obtain⟨A,c,rfl,T,R,m,g⟩:=N
 cases A with
 | none=>
  have F:=m rfl
  have D:d=[]:=Ju (by omega)
  subst D
  subst F
  refine wpList_append_own_none q s x t K B e i 1 S.ht L v us.length us J b I ?_
  exact h v w (by simpa using b) ⟨rfl,rfl,rfl,Ja _,λ_ _ _=>rfl⟩
 | some A=>
  refine wpList_append_own w q s x t K B e i z 1 i.bytes S.ht L M f rfl C (by decide) v us.length us J b A d.length c d I (by omega) (λj y E=>?_) H (by unfold maxLen;omega) ?_ k
   (λr w' H O U=>h r w' (by rw[Jc];exact H) O)
  ·have p:j<d.length:=(JH.1 E).1
   rw[IV p] at E
   cases E
   exact g A rfl j p
  ·have:=La n G
   omega
theorem zR (U:U8 P t e){K:Act->World->Prop}(s x:Operand)
  (J:o.op=.call { callee:=.builtin .append,args:=#[s,x],argTypes:=#[t,t] })
  (B:Nat) (v:Value) (l:List UInt8) (I:a.eval s=v) (d:Ow e w B v l) (u:Value) (m:List UInt8) (H:a.eval x=u) (N:Rd w u m)
  (L:l.length+m.length<=140737488355328) (n:B<=w.heap.size)
  (h:∀ p w',Ow e w' B p (l++m)->w.grownBy w' v.ownBlock->(p=.slice none 0 0->l=[]/\m=[])->K (a.put o.dst p) w'):o.wp P a w K Q:=by
 obtain⟨i,M,C,f,G⟩:=U.hi
 obtain⟨A,c,rfl,Y,X,r,k⟩:=N
 cases A with
 | none=>
  have F:=r rfl
  have D:m=[]:=Ju (by omega)
  subst D
  subst F
  have q:=run_append_owned_none (P:=P) (w:=w) B t o.type e i 1 U.ht M v l.length (Lib.byteCells l) d
  have T:=h v w (by simpa using d) ⟨rfl,rfl,rfl,Ja _,λ_ _ _=>rfl⟩ (λe=>by
   subst e
   rcases d.shape with⟨_,h⟩|⟨g,c,h,_⟩
   ·exact⟨h,rfl⟩
   ·cases h)
  unfold Oper.wp
  simp[execOp,J,resolve,invoke,builtin,I,H,q,Result.andThen]
  exact T
 | some A=>
  refine wp_append_own w s x t J B e i (.int .u8 0) 1 1 U.ht M C f G rfl (by decide) v l.length (Lib.byteCells l) I d A m.length c (Lib.byteCells m) H (by rw[cG];omega) (λj z E=>?_) (λz C=>?_) (by unfold maxLen;omega) (by omega) n
   (λp w' S R O=>h p w' (by unfold Ow;rw[Jc,mb];exact S) R (λe=>?_))
  ·have y:j<m.length:=by
    have:=(JH.1 E).1
    rwa [cG] at this
   rw[gd m j y] at E
   cases E
   exact k A rfl j y
  ·obtain⟨b,_,rfl⟩:=JO.1 C
   rfl
  ·obtain⟨W,V⟩:=O.1 e
   subst W
   rcases d.shape with⟨_,h⟩|⟨g,c,h,_⟩
   ·exact⟨h,Ju V⟩
   ·cases h
theorem Rd.one (h:Rd w v l):v.oneCell'=true:=by
 obtain⟨a,c,rfl,_⟩:=h.shape;rfl
theorem oD (w:World)(e:TypeId)(u:Value):(w.alloc (.cells #[u] e)).ownsRow w.heap.size e 1 (.slice (some ⟨w.heap.size,0,none⟩) 1 1) [u].length [u]:=
 Ku w #[u] 1 (Ja _) (by unfold maxLen;omega) rfl
theorem One.same {X:Nat->Prop}(h:One T w p v)(k:bg X w w')(a:¬X p):One T w' p v:=(k.block p h.lt a).trans h
theorem Bz (i n c:Nat)(x y:UInt8)(p o g:Nat)(s r:TypeId)(m:List UInt8)(w:World)(l:i<m.length)(j:m.length=n)(d:One s w p (.int .u8 (y.toNat:Int)))(f:One r w o (.slice (some ⟨g,0,none⟩) n c))(b:By 5 w g m)(h:n<=1000000):
  Calls prog 262 #[.int .i64 i,.int .u8 (x.toNat:Int),.pointer (some ⟨p,0,none⟩),.pointer (some ⟨o,0,none⟩)] w λe w'=>e=.returned (.tuple #[])/\w.setCell ⟨g,i,none⟩ (.int .u8 ((x ^^^ y).toNat:Int))=w':=by
 have u:=d.cell;have v:=f.cell;have A:=b.cell i l;have t:=b.frozen i;have q:=qV x y;have k:i<n:=by omega
 obtain⟨z,a⟩:∃ z:Int,z=((x ^^^ y).toNat:Int):=⟨_,rfl⟩;rw[<-a] at q ⊢;clear a j;go_enter func262,ntmps262;go_wp2_with fail;go_end0
 exact⟨rfl,rfl⟩
theorem BA (l:List UInt8)(y:UInt8)(k:Nat)(h:k<l.length):(aG (List.replicate l.length 0) (bI l y) k).set k (l.getD k 0 ^^^ y)=aG (List.replicate l.length 0) (bI l y) (k+1):=
 gX _ _ k (by simp[jX]) (by simpa using h) _ (Bb l y k h)
theorem BB (v:Value)(l:List UInt8)(y:UInt8)(p o g c:Nat)(J I:TypeId)(w j:World)(h:Rd w v l)(P:l.length<=1000000)(D:Kp w j)(E:w.heap.size<=g)
  (N:One J j p (.int .u8 (y.toNat:Int))) (O:One I j o (.slice (some ⟨g,0,none⟩) l.length c)) (A:p≠g) (C:o≠g) (H:By 5 j g (List.replicate l.length 0)):
  Calls prog 260 #[v,.func (.func 262) #[] #[.pointer (some ⟨p,0,none⟩),.pointer (some ⟨o,0,none⟩)]] j λe w'=>e=.returned (.tuple #[])/\By 5 w' g (bI l y)/\bg (λk=>k=g) j w'/\Kp w w':=by
 obtain⟨a,X,rfl,W,R⟩:=h.shape;unfold maxLen at R;have T:=Lib.hid (BA l y);have m:aG (List.replicate l.length 0) (bI l y) l.length=bI l y:=by
  have:=jA (List.replicate l.length 0) (bI l y) (by simp[jX]);rwa [jX] at this
 have U:=Lib.hid m;have t:aG (List.replicate l.length 0) (bI l y) 0=List.replicate l.length 0:=by simp[aG]
 have s:By 5 j g (aG (List.replicate l.length 0) (bI l y) 0):=by rw[t];exact H
 have K:Hid (∀ k,k<=l.length->(aG (List.replicate l.length 0) (bI l y) k).length=l.length):=λk D=>by
  rw[fR _ _ _ (by simp[jX]) (by simpa using D)];simp
 clear m t H;go_enter func260,ntmps260;go_wp2_with fail;go_loopw[8] (λi wr=>∃ k:Nat,k<=l.length/\i=.int .i64 k/\By 5 wr g (aG (List.replicate l.length 0) (bI l y) k)/\bg (λk=>k=g) j wr/\Kp w wr) (λi _=>(l.length - (intOf i).toNat))
 case atStart=>exact⟨0,by omega,rfl,s,bg.refl _ _,D⟩
 case round=>
  clear s;obtain⟨k,r,rfl,F,u,n⟩:=hrel;by_cases f:k<l.length
  ·obtain⟨b,L,rfl,_,d⟩:=h.at k f
   have Q:=n.cell (d k f);have z:=N.same u A;have B:=O.same u C;have S:=Lib.hid (Bz k l.length c (l.getD k 0) y p o g J I _ wr (by rw[K.out k r];exact f) (K.out k r) z B F P);have q:=T.out k f;have G:=Lib.hid q;clear q d;generalize M:l.getD k 0=x at *;clear M;go_wp2_with(go_at_call 262;refine S.out.mono ?_;rintro e V ⟨rfl,rfl⟩)
   go_roundw
   case rel=>exact⟨k+1,by omega,by go_num,F.set k _ G.out,u.setCell _ _ rfl,Below.setCell n E _⟩
   case measure=>simp[intOf];omega
  ·obtain rfl:k=l.length:=by omega
   go_wp2_with fail;go_end0
   exact⟨rfl,by rw[<-U.out];exact F,u,n⟩
theorem uL (v:Value)(l:List UInt8)(y:UInt8)(w:World)(h:Rd w v l)(r:l.length<=1000000):
  Calls prog 236 #[v,.int .u8 (y.toNat:Int)] w λe w'=>(∃ g,e=.returned (.slice (some ⟨g,0,none⟩) l.length l.length)/\By 5 w' g (bI l y)/\w.heap.size<=g)/\Kp w w':=by
 obtain⟨a,E,rfl,D,x⟩:=h.shape;unfold maxLen at x;have i:One 5 (w.alloc (.cells #[.int .u8 (y.toNat:Int)] 5)) w.heap.size (.int .u8 (y.toNat:Int)):=One.new _ _ _;have k:∀ W,W=(w.alloc (.cells #[.int .u8 (y.toNat:Int)] 5)).alloc (.cells (Array.replicate l.length (.int .u8 0)) 5)->By 5 W (w.heap.size+1) (List.replicate l.length 0):=λW u=>by
  subst u;have:=By.fresh 5 (w.alloc (.cells #[.int .u8 (y.toNat:Int)] 5)) l.length;rwa [Jn] at this
 have B:=Lib.hid k;have A:=Lib.hid i;clear k i;go_enter func236,ntmps236;go_wp2_with(at_make;refine jb (z:=.int .u8 0) (b:=1) underlying24 info5 rfl (by decide) rfl _ _ rfl l.length rfl rfl r ?_;intro f c;have j:=B.out f c;have m:One 5 f w.heap.size (.int .u8 (y.toNat:Int)):=(by rw[c];exact A.out.kp ((Kp.refl _).alloc _));have o:Kp w f:=(by rw[c];exact((Kp.refl w).alloc _).alloc _);have s:=j.lt;clear c)
 have d:One 24 (f.alloc (.cells #[.slice (some ⟨w.heap.size+1,0,none⟩) l.length l.length] 24)) f.heap.size (.slice (some ⟨w.heap.size+1,0,none⟩) l.length l.length):=One.new _ _ _;refine(BB _ l y w.heap.size f.heap.size (w.heap.size+1) l.length _ _ w _ h r (o.alloc _) (by omega) (m.kp ((Kp.refl _).alloc _)) d (by omega) (by omega) (j.kp ((Kp.refl _).alloc _))).mono ?_;rintro e C ⟨rfl,p,q,n⟩;have t:=(d.same q (by omega)).cell;clear d;go_wp2_with fail;go_ret;exact⟨⟨_,rfl,p,by omega⟩,n⟩
section
open Go.Shelf
attribute [local go_sem] Oper.semAt_some
theorem One.step (h:One T w p v)(k:am Y w w')(a:¬Y p):One T w' p v:=(k.block p h.lt a).trans h
theorem One.held (h:One T w p v)(k:aT Y w w')(a:Y p):One T w' p v:=(k.block p h.lt a).trans h
theorem Ow.lt {B:Nat}(h:Ow e A B v l):∀ g,v.ownBlock=some g->g<A.heap.size:=λg a=>(JP h g a).2
theorem Rd.held {R:Nat->Prop}(h:Rd A v l)(m:aT R A B)(k:∀ b o n c,v=.slice (some ⟨b,o,none⟩) n c->R b):Rd B v l:=by
 obtain⟨a,c,rfl,t,s,r,j⟩:=h;refine⟨a,c,rfl,t,s,r,λx e i p=>?_⟩;have q:=j x e i p;subst e;obtain⟨b,o,d⟩:=x;have g:=Mk (j _ rfl 0 (by omega));have f:d=none:=by simpa [Addr.add] using g
 subst f;exact m.cell q (by
  have:((⟨b,o,none⟩:Addr).add i).block=b:=by unfold Addr.add;split <;> rfl
  rw[this];exact k b o _ c rfl)
theorem oY {a:World}{n c:Nat}(h:A.ownsRow b e 1 (.slice (some ⟨g,0,none⟩) n c) k xs)(d:am Y A a)(f:¬Y g):a.ownsRow b e 1 (.slice (some ⟨g,0,none⟩) n c) k xs:=by
 refine⟨h.1,?_⟩;rcases h.2 with⟨hn,_⟩|⟨g',cap,cur,e',hb,hg,rest⟩
 ·cases hn
 ·have i:g=g':=by simpa [Value.ownBlock] using congrArg Value.ownBlock e'
  subst i;exact .inr ⟨g,cap,cur,e',hb,(d.block g (IX.1 hg).1 f).trans hg,rest⟩
theorem Ow.kp' {f:World}(h:A.ownsRow b e 1 v k xs)(i:Kp A f):f.ownsRow b e 1 v k xs:=by
 refine⟨h.1,?_⟩;rcases h.2 with j|⟨g,c,a,rfl,l,d,rest⟩
 ·exact .inl j
 ·exact .inr ⟨g,c,a,rfl,l,(i.block g (IX.1 d).1).trans d,rest⟩
theorem uM (w:World)(T:TypeId)(aa:Value):∀ j v,[aa][j]?=some v->(w.alloc (.cells #[aa] T)).cell? ((⟨w.heap.size,0,none⟩:Addr).add j)=some v:=by
 intro j v h
 cases j with
 | zero=>simp at h;subst h;exact(One.new T w aa).cell
 | succ j=>simp at h
theorem oZ {a w2:World}(k:Kp w a)(c:a.grownBy w2 (some g))(h:One T w p v)(b:p≠g):One T w2 p v:=
 (c.block p (h.kp k).lt (λe=>b (by cases e;rfl))).trans (h.kp k)
theorem BC (n N:Nat)(B:Nat->List UInt8)(gf:Nat)(lb:Array Value)(R:Nat->Prop)(w:World)(hB:∀ i,(B i).length=32)(hn:n<=32*N)(ak:n<=1000000)
  (eg:∀ args w,(callFunc gf args).run prog w=.ok (.enter gf args) w) (hR:∀ k,R k->k<w.heap.size)
  (ax:oz prog gf lb (λi v Y A=>Rd A v (B i)/\∀ b o n c,v=.slice (some ⟨b,o,none⟩) n c->Y b) N R w):
  Calls prog 169 #[.int .i64 n,.func (.func gf) #[] lb] w λe w'=>(∃ v,e=.returned v/\Ow 5 w' w.heap.size v (je B n))/\Kp w w':=by
 have U:=aj;obtain⟨i0,J,ae,I,aq⟩:=info_parts info5;by_cases h0:n=0
 ·subst h0
  rw[Bu];go_enter func169,ntmps169;go_wp2;go_step3
  go_wp2_with(at_make;refine wpList_make_own _ rfl _ _ 24 rfl w.heap.size 5 i0 (.int .u8 0) 1 underlying24 J ae I _ _ _ 0 rfl rfl rfl (by omega) (by unfold maxLen;omega) (by simp) ?_;intro a t M;have O:=Below.grown (Below.refl _ _) M (Ja _) (by intro k e;cases e);have C:=One.kp (One.new 3 w (.int .i64 0)) O;have cn:=C.cell;have ao:∀ o,(a.alloc o).cell? ⟨w.heap.size,0,none⟩=_:=(λo=>Kp.cell ((Kp.refl a).alloc o) cn);have T:=O.size;rw[Jn] at T)
  rw[Exit.noGoto_ret];go_ret;refine⟨⟨_,rfl,Ow.kp (l:=[]) (by rw[Jn] at t;exact t) ((Kp.refl _).alloc _)⟩,(((Kp.refl w).alloc _).trans O).alloc _⟩
 ·have aJ:¬(n:Int)=0:=by omega
  refine(callsIn_wide (n:=4)).1 ?_;refine callsIn_of_wp_marks func169 rfl trivial ?_ rfl;refine wpIn_wide.2 ?_;simp only[ntmps169,Ka,Kb,Jt,Jo,Nat.reduceAdd,Nat.reduceSub,JX,JY,Kg,JR,Kc];go_wp2;go_step3
  go_wp2_with(at_make;refine wpList_make_own _ rfl _ _ 24 rfl w.heap.size 5 i0 (.int .u8 0) 1 underlying24 J ae I _ _ _ n rfl rfl rfl (by rw[aq];omega) (by unfold maxLen;omega) (by simp) ?_;intro a t M;have O:=Below.grown (Below.refl _ _) M (Ja _) (by intro k e;cases e);have C:=One.kp (One.new 3 w (.int .i64 n)) O;have cn:=C.cell;have ao:∀ o,(a.alloc o).cell? ⟨w.heap.size,0,none⟩=_:=(λo=>Kp.cell ((Kp.refl a).alloc o) cn);have T:=O.size;rw[Jn] at T)
  go_step3
  go_wp2;rw[Jn] at t;obtain⟨W0,F⟩:∃ W0,a.alloc (.cells #[.slice (some ⟨w.heap.size+1,0,none⟩) 0 n] 24)=W0:=⟨_,rfl⟩;have aI:W0.heap.size=a.heap.size+1:=by rw[<-F];simp
  have ab:One 24 W0 a.heap.size (.slice (some ⟨w.heap.size+1,0,none⟩) 0 n):=by rw[<-F];exact One.new _ _ _
  have k0:Kp a W0:=by rw[<-F];exact(Kp.refl _).alloc _
  have X:W0.ownsRow w.heap.size 5 1 (.slice (some ⟨w.heap.size+1,0,none⟩) 0 n) 0 (Lib.byteCells []):=Ow.kp (l:=[]) t k0;have Z:=C.kp k0;have ad:Kp w W0:=(((Kp.refl w).alloc _).trans O).trans k0;have az:w.heap.size+1<a.heap.size:=(JP t _ rfl).2;rw[F];have HB:=Lib.hid hB;clear F t C cn ao M k0 hB O;refine tG (R:=R) rfl eg ad hR ax rfl
   (λi Y A=>One 24 A a.heap.size (.slice (some ⟨w.heap.size+1,0,none⟩) (32*i) n)/\A.ownsRow w.heap.size 5 1 (.slice (some ⟨w.heap.size+1,0,none⟩) (32*i) n) (32*i) (Lib.byteCells (di B i))/\One 3 A w.heap.size (.int .i64 n)/\Kp w A/\32*i<n)
   (λc i Y A=>c=.exit 0/\One 24 A a.heap.size (.slice (some ⟨w.heap.size+1,0,none⟩) n n)/\A.ownsRow w.heap.size 5 1 (.slice (some ⟨w.heap.size+1,0,none⟩) n n) n (Lib.byteCells (je B n))/\Kp w A)
   ?mI ?mIx ?TT ⟨ab,X,Z,ad,by omega⟩
   (λv a' _=>a'={ tmps:=#[.int .i64 n,.func (.func gf) #[] lb,.pointer (some ⟨w.heap.size,0,none⟩),undef,.slice none 0 0,.pointer (some ⟨a.heap.size,0,none⟩),v,undef,undef,.int .i64 n,.slice (some ⟨w.heap.size+1,0,none⟩) 0 n,.int .i64 n,.bool false,undef,.func (.func gf) #[] lb,v,undef,undef,undef,undef,undef,undef,undef,undef,undef,undef,undef,undef,undef,undef,undef,undef],defers:=[] })
   (λ_ _ _ _ _ _ h _ _=>h) ?assign ?body ?done ?stop
  case mI=>
   rintro i Y Y' A A' ⟨r,g,H,s,P⟩ hY G hg;have u:∀ k,Y k->k≠a.heap.size/\k≠w.heap.size+1/\k≠w.heap.size:=λk y=>by have:=hY k y;omega
   exact⟨r.step G (λe=>(u _ e).1 rfl),oY g G (λe=>(u _ e).2.1 rfl),H.step G (λe=>(u _ e).2.2 rfl),Below.trans s (G.below s.size (λk y=>by have:=hY k y;omega)),P⟩
  case mIx=>
   rintro c i Y Y' A A' ⟨h0,r,g,s⟩ hY G hg;have u:∀ k,Y k->k≠a.heap.size/\k≠w.heap.size+1/\k≠w.heap.size:=λk y=>by have:=hY k y;omega
   exact⟨h0,r.step G (λe=>(u _ e).1 rfl),oY g G (λe=>(u _ e).2.1 rfl),Below.trans s (G.below s.size (λk y=>by have:=hY k y;omega))⟩
  case TT=>
   rintro i v Yi Y A A' l o ⟨hr,hv⟩ ar _ _ hl G;exact⟨hr.turn hl rfl G,λb o n c e=>ar _ (hv b o n c e)⟩
  case assign=>
   intro l i Y Yi v A K hI hT hK;gi_wp2
   exact hK _ _ (Kp.refl _) rfl
  case body=>
   rintro l i Y v a' A hi ⟨r,g,H,s,P⟩ au aN ⟨V,Q⟩ rfl;clear ab X Z;have al:=HB.out i;obtain⟨av,cv,rfl,q1,q2⟩:=V.shape;unfold maxLen at q2;rw[al] at Q q1;gi_wp2
   gi_loopw [18] (λp wr=>∃ j:Nat,j<=32/\p=.int .i64 j/\One 24 wr a.heap.size (.slice (some ⟨w.heap.size+1,0,none⟩) (32*i+j) n)/\wr.ownsRow w.heap.size 5 1 (.slice (some ⟨w.heap.size+1,0,none⟩) (32*i+j) n) (32*i+j) (Lib.byteCells (di B i++(B i).take j))/\One 3 wr w.heap.size (.int .i64 n)/\Kp w wr/\aT (λk=>Y k\/R k) A wr/\32*i+j<n) (λp _=>32 - (intOf p).toNat)
   case atStart=>exact⟨0,by omega,rfl,r,by simpa using g,H,s,aT.refl _ _,P⟩
   case round=>
    clear r g H s P;obtain⟨j,hj,rfl,r,g,H,s,hh,P⟩:=hrel;by_cases aw:j<32
    ·obtain⟨b,ap,rfl,_,E⟩:=V.at j (by omega)
     have aM:=hh.cell (E j (by omega)) (.inl (Q b ap _ _ rfl));have aL:(j:Int)<32:=by omega
     have S:=ma (B i) j (by omega);have HH:=Lib.hid (λh=>Bt B HB.out n i j aw h);rw[S] at HH;obtain⟨K,hK⟩:∃ K,32*i+j=K:=⟨_,rfl⟩;have HK:=Lib.hid hK;obtain⟨L,hL⟩:∃ L,di B i++(B i).take j=L:=⟨_,rfl⟩;have HL:Hid (di B i++(B i).take (j+1)=L++[(B i).getD j 0]):=by show _=_;rw[S,<-KN,hL]
     rw[<-KN,hL] at HH;have hg:w.heap.size+1<wr.heap.size:=(JP g _ rfl).2;rw[hK] at r g P;rw[hL] at g;generalize hx:(B i).getD j 0=x at *;have ah:∀ k,Y k\/R k->k≠a.heap.size/\k≠w.heap.size+1:=λk y=>by
      rcases y with h|h
      ·have:=au k h;omega
      ·have:=hR k h;omega
     have aG:=Lib.hid ah;have c1:=r.cell;have aH:¬a.heap.size=w.heap.size:=by omega
     have ai:¬w.heap.size=a.heap.size:=by omega
     have aK:j<(B i).length:=by omega
     clear S hK hL E hx ah V Q al;have hq:decide ((K:Int)+1=n)=decide (K+1=n):=by congr 1;exact propext ⟨λh=>by omega,λh=>by omega⟩
     have ag:((K:Int)+1==(n:Int))=decide (K+1=n):=by rw[<-hq];rfl
     clear hq;have an:∀ w2:World,(wr.alloc (.cells #[.int .u8 (x.toNat:Int)] 5)).grownBy w2 (some (w.heap.size+1))->w2.ownsRow w.heap.size 5 1 (.slice (some ⟨w.heap.size+1,0,none⟩) (K+1) n) (K+1) (Lib.byteCells L++[.int .u8 (x.toNat:Int)]) ->
       One 24 w2 a.heap.size (.slice (some ⟨w.heap.size+1,0,none⟩) K n)->One 3 w2 w.heap.size (.int .i64 n)->∀ W,w2.setCell ⟨a.heap.size,0,none⟩ (.slice (some ⟨w.heap.size+1,0,none⟩) (K+1) n)=W ->
       One 24 W a.heap.size (.slice (some ⟨w.heap.size+1,0,none⟩) (K+1) n)/\W.ownsRow w.heap.size 5 1 (.slice (some ⟨w.heap.size+1,0,none⟩) (K+1) n) (K+1) (Lib.byteCells (L++[x]))/\One 3 W w.heap.size (.int .i64 n)/\Kp w W/\aT (λk=>Y k\/R k) A W:=by
      intro w2 d z f ak W hW;subst hW;have ay:a.heap.size≠w.heap.size+1:=by omega
      refine⟨f.set _,?_,ak.step ((am.refl (λk=>k=a.heap.size) w2).setCell _ _ (.inr rfl)) (λe=>ai e),Below.setCell (Below.grown (Below.trans s (((Kp.refl wr).alloc _).mono s.size)) d (by have:=s.size;simp;omega) (λk e=>by cases e;omega)) (by simp;omega) _,?_⟩
      ·rw[mb]
       exact oY z ((am.refl (λk=>k=a.heap.size) w2).setCell _ _ (.inr rfl)) (λe=>ay e.symm)
      ·refine hh.trans ⟨Js (by simp) (Js d.size (by simp)),λk y hr=>?_⟩
       obtain⟨r,g⟩:=aG.out k hr;exact(Below.heap_setCell w2 _ _ k (λe=>r (by simpa using e))).trans ((d.block k (by simp;omega) (λe=>g (by cases e;rfl))).trans (Below.heap_alloc wr _ k y))
     by_cases q:K+1=n
     ·rw[Jy q] at ag
      gi_wp2_with (gi_at_builtin;refine wpListIn_append_fits _ rfl _ _ 24 rfl w.heap.size 5 i0 1 U.ht J I (w.heap.size+1) K n _ rfl (Ow.kp' g ((Kp.refl _).alloc _)) ⟨wr.heap.size,0,none⟩ 1 1 [.int .u8 (x.toNat:Int)] rfl rfl (uM wr _ _) (by intro aa hu;simp at hu;subst hu;rfl) (by omega) ?_;intro w2 z d;have f:=oZ ((Kp.refl wr).alloc (.cells #[.int .u8 (x.toNat:Int)] 5)) d r (by omega);have m:=oZ ((Kp.refl wr).alloc (.cells #[.int .u8 (x.toNat:Int)] 5)) d H (by omega);have aF:=f.cell;have aD:=f.frozen;have aE:=m.cell)
      obtain⟨f1,f2,f3,f4,f5⟩:=an w2 d z f m _ rfl;rw[HH.out (by have:=HK.out;omega)] at f2;rw[q] at f1 f2 f4 f5;exact⟨f5,.inr ⟨_,rfl,rfl,f1,f2,f4⟩⟩
     ·rw[Jr q] at ag
      gi_wp2_with (gi_at_builtin;refine wpListIn_append_fits _ rfl _ _ 24 rfl w.heap.size 5 i0 1 U.ht J I (w.heap.size+1) K n _ rfl (Ow.kp' g ((Kp.refl _).alloc _)) ⟨wr.heap.size,0,none⟩ 1 1 [.int .u8 (x.toNat:Int)] rfl rfl (uM wr _ _) (by intro aa hu;simp at hu;subst hu;rfl) (by omega) ?_;intro w2 z d;have f:=oZ ((Kp.refl wr).alloc (.cells #[.int .u8 (x.toNat:Int)] 5)) d r (by omega);have m:=oZ ((Kp.refl wr).alloc (.cells #[.int .u8 (x.toNat:Int)] 5)) d H (by omega);have aF:=f.cell;have aD:=f.frozen;have aE:=m.cell)
      obtain⟨f1,f2,f3,f4,f5⟩:=an w2 d z f m _ rfl;go_roundw
      case rel=>exact⟨j+1,by omega,by go_num,by rw[<-Lv,HK.out];exact f1,by rw[<-Lv,HK.out,HL.out];exact f2,f3,f4,f5,by have:=HK.out;omega⟩
      case measure=>simp[intOf];omega
    ·obtain rfl:j=32:=by omega
     have q:di B i++(B i).take 32=di B (i+1):=by rw[di,JG (by omega)]
     rw[q] at g;gi_wp2
     exact .inl ⟨r,g,P⟩
  case done=>
   rintro D Y W hD aC aB ⟨r,g,H,s,P⟩ hd;omega
  case stop=>
   rintro D c i Y W hD aC aB hi ⟨rfl,r,g,s⟩ hd;have c1:=r.cell;clear ab X Z;go_wp2;rw[Exit.noGoto_ret];have aA:=mV B HB.out n;have af:am (λk=>k=D) W (W.putObj D (.deferred none)):=(am.refl _ W).putObj _ _ (.inr rfl);refine⟨by simp,.inl ⟨_,_,rfl,run_takeDeferred hd,?_⟩⟩;refine⟨_,results_tmp rfl _ _ _,⟨_,rfl,?_⟩,Below.trans s (af.below s.size (λk y=>by omega))⟩;have H:=oY g af (λe=>by omega);unfold Ow;rw[aA];exact H
theorem BG (k:Nat)(w:World):
  Calls prog 199 #[.int .i64 k] w λe w'=>e=.returned (.func (.func 234) #[] #[.pointer (some ⟨w.heap.size,0,none⟩)])/\w.alloc (.cells #[.int .i64 k] 3)=w':=by
 go_enter func199,ntmps199;go_wp2;go_ret;exact⟨rfl,rfl⟩
theorem BH (k N b:Nat)(w:World)(hk:1<=k/\k<=6)(hN:256 ^ k=N+1)(x:w.cell? ⟨b,0,none⟩=some (.int .i64 k)):
  oz prog 234 #[.pointer (some ⟨b,0,none⟩)] (λi v _ A=>Rd A v (be k (i+1))) N (λj=>j=b) w:=by
 intro l J Jx W K ab aa P ad O R;have t:=K.cell x rfl;have T:=Lib.hid P;have HY:=Lib.hid O;have E:b<w.heap.size:=Jz w _ x;have L:(N:Int)<=281474976710656:=by
  have Q:256 ^ k<=256 ^ 6:=Kd (by omega) hk.2;have h3:(256:Nat) ^ 6=281474976710656:=by decide
  omega
 have HN:Hid (∀ i,i<N->gV ((i:Int)+1) k=0/\fs ((i:Int)+1) k=be k (i+1)):=λi hi=>by
  obtain⟨h1,Q⟩:=iz (n:=(i:Int)+1) (w:=k) ⟨by omega,by omega,by omega,by
   have:=(lz (i+1) k).2 (by omega);simpa using this⟩
  refine⟨h1,Q.trans ?_⟩;congr 1
 have HE:Hid (gV ((N:Int)+1) k=1):=by
  refine(li (n:=(N:Int)+1) (w:=k) (λh=>?_)).1;have:=(lz (N+1) k).1 (by simpa using h.2.2.2);omega
 have HH:=Lib.hid (Jb x E);have o:=Lib.hid K;clear P O hN x;refine(callsIn_wide (n:=5)).1 ?_;refine callsIn_of_wp func234 rfl trivial ?_ rfl;simp only[ntmps234,Ka,Kj,Kb,Jo,Jt,Nat.reduceAdd,Nat.reduceSub,JX,JY,Kg,JR,Kc];gi_wp2
 gi_loopw [3] (λp wr=>∃ (i:Nat) (Y:Nat->Prop),i<=N/\p=.int .i64 ((i:Int)+1)/\wr.cell? ⟨b,0,none⟩=some (.int .i64 k)/\aT (λj=>j=b) w wr/\J i Y wr/\(∀ j,Y j->W.heap.size<=j/\j<wr.heap.size)/\W.heap.size<=wr.heap.size) (λp _=>N+1 - (intOf p).toNat)
 case atStart=>exact⟨0,_,by omega,rfl,t,o.out,R,λ_ h=>h.elim,Ja _⟩
 case round=>
  clear t R;obtain⟨i,Y,hi,rfl,M,s,D,c,U⟩:=hrel;have X:prog.follows .mixedOrders=true:=by kernel_rfl
  have Z:prog.follows .lateStores=true:=by kernel_rfl
  by_cases g:i<N
  ·obtain⟨e1,e2⟩:=HN.out i g
   gi_wp2_with (refine⟨trivial,?_⟩;gi_at_call 100;refine(callsIn_wide.2 (jY ((i:Int)+1) k _ (by omega))).mono ?_;rintro e q ⟨H,rfl,u,f⟩;rw[e2] at u;have C:=T.out i Y Y wr q D c (am.of_kp f) (λ_ h=>.inl h);have m:=f.cell M;have a:∀ j,Y j->W.heap.size<=j/\j<q.heap.size:=(λj h=>⟨(c j h).1,Jh (c j h).2 f.size⟩);have r:=s.trans (aT.of_kp f);have V:=f.size;obtain⟨fn,tmps,y,S,I,G⟩:=HY.out i Y q H 4 g C a r u.rd)
   clear D M c s u;refine G.mono ?_;rintro e w2 ⟨d,(⟨rfl,B⟩|⟨rfl,z⟩)⟩
   ·have F:=d.cell m (.inr rfl)
    clear I G m;gi_wp2
    go_roundw
    case rel=>exact⟨i+1,Y,by omega,by go_num,F,r.trans (d.mono (λ_ h=>.inr h)),B,λj h=>⟨(a j h).1,Jh (a j h).2 d.size⟩,by have:=d.size;omega⟩
    case measure=>simp[intOf];omega
   ·clear I G m
    gi_wp2
    refine bodyPost_ret (results_none rfl _ _ _) rfl ?_;exact⟨⟨_,rfl⟩,Y,λj h=>⟨(a j h).1,Jh (a j h).2 d.size⟩,.inr ⟨i,g,z⟩⟩
  ·obtain rfl:i=N:=by omega
   have e1:=HE.out;gi_wp2_with (refine⟨trivial,?_⟩;gi_at_call 100;refine(callsIn_wide.2 (jY ((i:Int)+1) k _ (by omega))).mono ?_;rintro e q ⟨H,rfl,u,f⟩)
   refine⟨λ_ h=>(by cases h),?_⟩;gi_wp2
   refine bodyPost_ret (results_none rfl _ _ _) rfl ?_;exact⟨⟨_,rfl⟩,Y,λj h=>⟨(c j h).1,Jh (c j h).2 f.size⟩,.inl (T.out i Y Y wr q D c (am.of_kp f) (λ_ h=>.inl h))⟩
end
theorem info24:(prog.info? 24).map (λi=>(i.zero,i.size,i.bytes))=some (some (.slice none 0 0),1,24):=by kernel_rfl
theorem uR:bK prog 115 24:=bK.mk' underlying115 info24 (by decide) rfl
theorem uS (n v:Value)(lb:List UInt8)(ls:List (List UInt8))(w:World)(s:Rd w n lb)(h:RL w v ls)(N:0<lb.length)(P:lb.length+ls.flatten.length<=2000)(O:ls.length<1000000):
  Calls prog 235 #[n,v] w λe w'=>(∃ a c,e=.returned (.slice a 32 c)/\Ow 5 w' w.heap.size (.slice a 32 c) (bF (lb++ls.flatten)))/\Kp w w':=by
 have S:=uR;obtain⟨us,q,b,f⟩:=h;have t:∀ z∈us,z.oneCell'=true:=λz G=>by
  obtain⟨i,j,rfl⟩:=JW G;have:=f i (by omega);rw[IU,IV j] at this;exact this.one
 have y:=Lib.hid (Jb b t);have r:us.length<1000000:=by omega
 have H:=Lib.hid f;clear b t f;obtain⟨x,u,rfl,M,D⟩:=s.shape;obtain⟨T,Q,rfl,L,C⟩:=q.shape;unfold maxLen at D C;have I:=Lib.hid (oD w 24 (.slice x lb.length u));go_enter func235,ntmps235;go_wp2_with(at_builtin;refine qz S rfl _ _ rfl w.heap.size _ [.slice x lb.length u] rfl I.out _ us rfl (q.kp ((Kp.refl _).alloc _)) y.out.2 (by simp;omega) (by simp) ?_;intro o w2 g l;have d:Kp w w2:=Kp.grown ((Kp.refl _).alloc _) l (by intro k e;cases e;exact Ja _))
 have m:RL w2 o (lb :: ls):=RL.cons g (s.kp d) y.out.1 (λi j=>(H.out i j).kp d);refine(lA o (lb :: ls) w2 m (by rw[Lh,Jc];omega) (by rw[Lh,Jc];omega) (by simp;omega)).mono ?_;rintro e K ⟨⟨A,rfl,E⟩,p⟩;go_wp2_with fail;refine(uH A (lb :: ls).flatten _ E.rd (by rw[Lh,Jc];omega)).mono ?_;rintro e J ⟨⟨U,R,rfl,B⟩,F⟩;go_wp2_with fail;go_ret;exact⟨⟨_,_,rfl,by simpa using B.mono (d.trans p).size⟩,(d.trans p).trans F⟩
theorem uT (m v:Value)(k:List UInt8)(ls:List (List UInt8))(w:World)(J:Rd w m k)(h:RL w v ls)(p:k.length<=2000)(X:ls.flatten.length<=1900)(I:ls.length<1000000):
  Calls prog 201 #[m,v] w λe w'=>(∃ a c,e=.returned (.slice a 32 c)/\Ow 5 w' w.heap.size (.slice a 32 c) (dZ k ls.flatten))/\Kp w w':=by
 have S:=uR;have b:=Lib.hid (oX k);have z:Hid (dZ k ls.flatten=bF (bI (bR k) 92++bF (bI (bR k) 54++ls.flatten))):=rfl;have f:=Lib.hid (λy:UInt8=>jX (bR k) y);obtain⟨K,r⟩:∃ K,bR k=K:=⟨_,rfl⟩;rw[r] at b z f;have U:=Lib.hid jd;have x:=Lib.hid (uI m k w J p);rw[r] at x;clear r;go_enter func201,ntmps201;go_wp2_with fail;refine x.out.mono ?_;rintro e B ⟨⟨P,rfl,T,_⟩,o⟩;have s:Rd B (.slice (some ⟨P,0,none⟩) 64 64) K:=T.rdAll (by rw[b.out]) (Ja _) (by unfold maxLen;omega);go_wp2_with fail;refine(uL _ K 92 _ s (by rw[b.out];omega)).mono ?_;rintro e w2 ⟨⟨O,rfl,R,_⟩,l⟩;have F:Rd w2 (.slice (some ⟨O,0,none⟩) 64 64) (bI K 92):=R.rdAll (by rw[f.out,b.out]) (Ja _) (by unfold maxLen;omega);have d:K.length=64:=b.out;rw[d];clear d;go_wp2_with fail;refine(uL _ K 54 _ (s.kp l) (by rw[b.out];omega)).mono ?_;rintro e A ⟨⟨N,rfl,Q,_⟩,j⟩;have E:Rd A (.slice (some ⟨N,0,none⟩) 64 64) (bI K 54):=Q.rdAll (by rw[f.out,b.out]) (Ja _) (by unfold maxLen;omega);have d:K.length=64:=b.out;rw[d];clear d;go_wp2_with fail;refine(uS _ _ (bI K 54) ls _ E (((h.kp o).kp l).kp j) (by rw[f.out,b.out];omega) (by rw[f.out,b.out];omega) I).mono ?_;rintro e g ⟨⟨u,t,rfl,D⟩,n⟩;have q:∀ W,Kp g W->W.ownsRow g.heap.size 24 1 (.slice (some ⟨g.heap.size,0,none⟩) 1 1) [Value.slice u 32 t].length [Value.slice u 32 t]->RL W (.slice (some ⟨g.heap.size,0,none⟩) 1 1) [bF (bI K 54++ls.flatten)]:=λW M H=>
  RL.cons (us:=[]) (ls:=[]) H (D.rd.kp M) rfl (λi L=>by simp at L)
 go_wp2_with fail;refine(uS _ _ (bI K 92) [bF (bI K 54++ls.flatten)] _ (((F.kp j).kp n).kp ((Kp.refl _).alloc _)) (q _ ((Kp.refl _).alloc _) (oD _ _ _)) (by rw[f.out,b.out];omega) (by rw[f.out,b.out];simp[U.out]) (by simp)).mono ?_;rintro e V ⟨⟨Z,Y,rfl,C⟩,G⟩;go_wp2_with fail;go_ret;exact⟨⟨_,_,rfl,by rw[z.out];simpa using C.mono ((((o.trans l).trans j).trans n).alloc _).size⟩,(((o.trans l).trans j).trans n).trans (((Kp.refl _).alloc _).trans G)⟩
theorem BI (g v:Value)(k b:List UInt8)(w:World)(o:Rd w g k)(h:Rd w v b)(d:k.length<=2000)(n:b.length<=1900):
  Calls prog 171 #[g,v] w λe w'=>(∃ a c,e=.returned (.slice a 32 c)/\Ow 5 w' w.heap.size (.slice a 32 c) (dZ k b))/\Kp w w':=by
 have f:∀ W,Kp w W->W.ownsRow w.heap.size 24 1 (.slice (some ⟨w.heap.size,0,none⟩) 1 1) [v].length [v]->RL W (.slice (some ⟨w.heap.size,0,none⟩) 1 1) [b]:=λW q m=>
  RL.cons (us:=[]) (ls:=[]) m (h.kp q) rfl (λi p=>by simp at p)
 obtain⟨y,u,rfl,t,s⟩:=h.shape;go_enter func171,ntmps171;go_wp2_with fail;refine(uT _ _ k [b] _ (o.kp ((Kp.refl _).alloc _)) (f _ ((Kp.refl _).alloc _) (oD _ _ _)) d (by simpa using n) (by simp)).mono ?_;rintro e r ⟨⟨z,x,rfl,j⟩,l⟩;go_wp2_with fail;go_ret;exact⟨⟨_,_,rfl,by simpa using j.mono ((Kp.refl _).alloc _).size⟩,((Kp.refl _).alloc _).trans l⟩
theorem uU (d v:Value)(k:List UInt8)(ls:List (List UInt8))(w:World)(l:Rd w d k)(h:RL w v ls)(b:k.length<=2000)(j:ls.flatten.length<=1900)(i:ls.length<1000000):
  Calls prog 200 #[d,v] w λe w'=>(∃ a c,e=.returned (.slice a 32 c)/\Ow 5 w' w.heap.size (.slice a 32 c) (dZ k ls.flatten))/\Kp w w':=by
 go_enter func200,ntmps200;go_wp2_with fail;refine(uT _ _ k ls _ l h b j i).mono ?_;rintro e m ⟨⟨o,n,rfl,f⟩,g⟩;go_wp2_with fail;go_ret;exact⟨⟨_,_,rfl,f⟩,g⟩
section
open Go.Shelf
attribute [local go_sem] Oper.semAt_some
def In (p:Nat->Prop)(v:Value):Prop:=∀ b o n c,v=.slice (some ⟨b,o,none⟩) n c->p b
theorem Rd.step (h:Rd A v l)(a:am Y A B)(c:In (λb=>¬Y b) v):Rd B v l:=
 h.held (R:=λb=>¬Y b) ⟨a.size,λk e d=>a.block k e d⟩ c
theorem Rd.heldAll (h:Rd w v l)(f:aT (λj=>j<w.heap.size) w B):Rd B v l:=by
 obtain⟨a,c,rfl,m,k,g,e⟩:=h;exact⟨a,c,rfl,m,k,g,λx b i d=>f.cell (e x b i d) (Jz w _ (e x b i d))⟩
theorem One.heldAll (h:One T w p v)(a:aT (λj=>j<w.heap.size) w B):One T B p v:=h.held a h.lt
theorem RL.lit2 {b a:Value}{c:List UInt8}(g:Rd w b d)(f:Rd w a c):RL (w.alloc (.cells #[b,a] T)) (.slice (some ⟨w.heap.size,0,none⟩) 2 2) [d,c]:=
 RL.cons (us:=[a]) (ls:=[c]) (Ku w #[b,a] 2 (Ja _) (by unfold maxLen;omega) rfl) (g.kp ((Kp.refl _).alloc _)) rfl (λi e=>by
  have:i=0:=by simpa using e
  subst this;exact f.kp ((Kp.refl _).alloc _))
theorem RL.lit3 {c b a:Value}{g e:List UInt8}(l:Rd w c g)(k:Rd w b e)(j:Rd w a d):RL (w.alloc (.cells #[c,b,a] T)) (.slice (some ⟨w.heap.size,0,none⟩) 3 3) [g,e,d]:=
 RL.cons (us:=[b,a]) (ls:=[e,d]) (Ku w #[c,b,a] 3 (Ja _) (by unfold maxLen;omega) rfl) (l.kp ((Kp.refl _).alloc _)) rfl (λi h=>by
  have f:i<2:=by simpa using h
  match i,f with
  | 0,_=>exact k.kp ((Kp.refl _).alloc _)
  | 1,_=>exact j.kp ((Kp.refl _).alloc _))
theorem BJ (s i:Value)(k info:List UInt8)(w:World)(t:Rd w s k)(m:k.length<=2000)(v:∃ a n c,i=.slice a n c):
  Calls prog 170 #[s,i] w λe w'=>(∃ b,e=.returned (.func (.func 198) #[] #[.pointer (some ⟨w.heap.size,0,none⟩),.pointer (some ⟨w.heap.size+1,0,none⟩)]) /\
   One 24 w' w.heap.size (.slice (some ⟨b,0,none⟩) 64 64)/\One 24 w' (w.heap.size+1) i/\By 5 w' b (bR k))/\Kp w w':=by
 obtain⟨r,j,q,rfl⟩:=v;obtain⟨g,f,rfl,_,_⟩:=t.shape;have z:Hid (One 24 (w.alloc (.cells #[.slice g k.length f] 24)) w.heap.size (.slice g k.length f)):=One.new _ _ _;have y:Hid (One 24 ((w.alloc (.cells #[.slice g k.length f] 24)).alloc (.cells #[.slice r j q] 24)) (w.heap.size+1) (.slice r j q)):=by
  have:=One.new 24 (w.alloc (.cells #[.slice g k.length f] 24)) (.slice r j q);rwa [Jn] at this
 go_enter func170,ntmps170;go_wp2_with(go_at_call 197;refine(uI _ k _ (t.kp (((Kp.refl w).alloc _).alloc _)) m).mono ?_;rintro e h ⟨⟨b,rfl,u,o⟩,l⟩;have p:=(z.out.kp ((Kp.refl _).alloc _)).kp l;have x:=y.out.kp l;have B:=p.cell;have A:=p.frozen)
 go_ret;rw[Jn,Jn] at o;have d:am (λk=>k=w.heap.size) h (h.setCell ⟨w.heap.size,0,none⟩ (.slice (some ⟨b,0,none⟩) 64 64)):=(am.refl _ h).setCell _ _ (.inr rfl);exact⟨⟨b,rfl,p.set _,x.step d (by omega),(d.block b u.lt (by omega)).trans u⟩,Below.setCell (Below.trans (((Kp.refl w).alloc _).alloc _) (l.mono (by simp;omega))) (by simp) _⟩
theorem BK (b1 b2 gK:Nat)(vi:Value)(k info:List UInt8)(w:World)(h1:One 24 w b1 (.slice (some ⟨gK,0,none⟩) 64 64))(h2:One 24 w b2 vi)(h3:By 5 w gK (bR k))(h4:Rd w vi info)
  (aO:k.length<=2000) (aP:info.length<=1800):
  oz prog 198 #[.pointer (some ⟨b1,0,none⟩),.pointer (some ⟨b2,0,none⟩)] (λi v Y A=>Rd A v (dn k info i)/\In Y v) 255 (λj=>j<w.heap.size) w:=by
 intro l J Jx W hh aN aM hJ ao hY h0;have HJ:=Lib.hid hJ;have aq:=Lib.hid ao;have HY:=Lib.hid hY;have HK:=Lib.hid (oX k);have HP:=Lib.hid (uK k info);have HS:Hid (∀ i,dZ (bR k) (fh k info i++info++be 1 (i+1))=dn k info i):=λi=>by rw[Bw,uJ]
 have HE:Hid (∀ i,fh k info (i+1)=dn k info i):=λ_=>rfl
 have HB:=Lib.hid (λi=>bl 1 (i+1));have hw:=hh.size;obtain⟨ai,ci,rfl,aH,aG⟩:=h4.shape;have HI:Hid (One 24 w b2 (.slice ai info.length ci)/\Rd w (.slice ai info.length ci) info/\One 24 w b1 (.slice (some ⟨gK,0,none⟩) 64 64)/\Rd w (.slice (some ⟨gK,0,none⟩) 64 64) (bR k)):=
  ⟨h2,h4,h1,h3.rdAll (by rw[HK.out]) (Ja _) (by unfold maxLen;omega)⟩
 clear hJ ao hY h1 h2 h3 h4;refine(callsIn_wide (n:=4)).1 ?_;refine callsIn_of_wp_marks func198 rfl trivial ?_ rfl;refine wpIn_wide.2 ?_;simp only[ntmps198,Ka,Kj,Kb,Jo,Jt,Nat.reduceAdd,Nat.reduceSub,JX,JY,Kg,JR,Kc];go_wp2_with(go_at_call 199;refine(BG 1 _).mono ?_;rintro e I ⟨rfl,r⟩)
 have aL:I.heap.size=W.heap.size+3:=by rw[<-r];simp
 have e3:One 187 I W.heap.size (.func (.yield l) #[] #[]):=by rw[<-r];exact((One.new _ _ _).kp ((Kp.refl _).alloc _)).kp ((Kp.refl _).alloc _)
 have e4:One 24 I (W.heap.size+1) (.slice none 0 0):=by
  have:=(One.new 24 (W.alloc (.cells #[.func (.yield l) #[] #[]] 187)) (.slice none 0 0)).kp ((Kp.refl _).alloc (.cells #[.int .i64 ((1:Nat):Int)] 3));rw[Jn,r] at this;exact this
 have e5:One 3 I (W.heap.size+1+1) (.int .i64 ((1:Nat):Int)):=by
  have:=One.new 3 ((W.alloc (.cells #[.func (.yield l) #[] #[]] 187)).alloc (.cells #[.slice none 0 0] 24)) (.int .i64 ((1:Nat):Int));rw[Jn,Jn,r] at this;exact this
 have kW:Kp W I:=by rw[<-r];exact(((Kp.refl W).alloc _).alloc _).alloc _
 clear r;refine tG (R:=λj=>j=W.heap.size+1+1) rfl (enters_of func234 (by kernel_rfl) rfl) (Kp.refl _) (λj q=>by omega) (BH 1 255 (W.heap.size+1+1) I (by omega) rfl e5.cell) rfl
  (λi Y A=>∃ g,J i g A/\(∀ j,Y j->g j)/\(∀ j,g j->W.heap.size<=j/\j<A.heap.size)/\g W.heap.size/\g (W.heap.size+1)/\g (W.heap.size+1+1)/\One 187 A W.heap.size (.func (.yield l) #[] #[]) /\
   (∃ v,One 24 A (W.heap.size+1) v/\Rd A v (fh k info i)/\In (λb=>g b/\¬Y b) v)/\aT (λj=>j<w.heap.size) w A)
  (λc i Y A=>c=.ret/\∃ g,Jx i g A/\(∀ j,Y j->g j)/\(∀ j,g j->W.heap.size<=j/\j<A.heap.size)/\g W.heap.size)
  ?mI ?mIx ?TT ⟨λj=>W.heap.size<=j/\j<I.heap.size,HJ.out 0 _ _ W I h0 (λ_ h=>h.elim) (am.of_kp kW) (λj q=>.inr q),λ_ h=>h.elim,λ_ h=>h,by omega,by omega,by omega,e3,⟨_,e4,cU _,λb o n c e=>by cases e⟩,hh.trans (aT.of_kp kW)⟩
  (λv a' _=>a'={ tmps:=#[.func (.yield l) #[] #[],.pointer (some ⟨b1,0,none⟩),.pointer (some ⟨b2,0,none⟩),.pointer (some ⟨W.heap.size,0,none⟩),.pointer (some ⟨W.heap.size+1,0,none⟩),v,.func (.func 234) #[] #[.pointer (some ⟨W.heap.size+1+1,0,none⟩)],v,undef,undef,undef,undef,undef,undef,undef,undef,undef,undef],defers:=[] })
  (λ_ _ _ _ _ _ h _ _=>h) ?assign ?body ?done ?stop
 case mI=>
  rintro i Y Y' A B ⟨g,q,f,d,t,C,y5,U,⟨v,S,M,hv⟩,P⟩ hY u hg;have aB:=u.size;have hn:∀ j,Y j->W.heap.size+3<=j:=λj h=>by have:=(hY j h).1;omega
  refine⟨λj=>g j\/Y' j,HJ.out i g _ A B q d (u.mono f) (λj h=>h.elim .inl (λh=>(hg j h).imp (f j) id)),λj h=>.inr h,λj h=>?_,.inl t,.inl C,.inl y5,U.step u (λe=>by have:=hn _ e;omega),⟨v,S.step u (λe=>by have:=hn _ e;omega),M.step u (λb o n c e=>(hv b o n c e).2),λb o n c e=>⟨.inl (hv b o n c e).1,λh=>?_⟩⟩,P.trans (aT.of_step u (λj q h=>by have:=hn j h;omega))⟩
  ·rcases h with h|h
   ·have:=d j h;omega
   ·rcases hg j h with h|h
    ·have:=d j (f j h);omega
    ·have:=(d _ t).2;omega
  ·rcases hg b h with h|h
   ·exact(hv b o n c e).2 h
   ·have:=(d b (hv b o n c e).1).2;omega
 case mIx=>
  rintro c i Y Y' A B ⟨hc,g,q,f,d,t⟩ hY u hg;have aB:=u.size;refine⟨hc,λj=>g j\/Y' j,aq.out i g _ A B q d (u.mono f) (λj h=>h.elim .inl (λh=>(hg j h).imp (f j) id)),λj h=>.inr h,λj h=>?_,.inl t⟩;rcases h with h|h
  ·have:=d j h;omega
  ·rcases hg j h with h|h
   ·have:=d j (f j h);omega
   ·have:=(d _ t).2;omega
 case TT=>
  rintro i v Yi Y A A' l' o M _ _ _ hl u;exact M.turn hl rfl u
 case assign=>
  intro l' i Y Yi v A K hI hT hK;gi_wp2
  exact hK _ _ (Kp.refl _) rfl
 case body=>
  rintro l' i Y v a' A hi ⟨g,q,f,d,t,C,y5,U,⟨vb,S,M,ae⟩,P⟩ aa aQ hT rfl;obtain⟨i1,i2,i3,i4⟩:=HI.out;obtain⟨av,cv,rfl,_,_⟩:=hT.shape;obtain⟨ab,cb,rfl,_,_⟩:=M.shape;obtain⟨nv,ag⟩:∃ nv,(be 1 (i+1)).length=nv:=⟨_,rfl⟩;obtain⟨nb,ah⟩:∃ nb,(fh k info i).length=nb:=⟨_,rfl⟩;rw[ag] at hT ⊢;rw[ah] at M S ae;clear ag ah;have p1:=(i3.heldAll P).cell;have p2:=(i1.heldAll P).cell;have p3:=U.cell;have p4:=S.cell;have f4:=S.frozen;have Z:([fh k info i,info,be 1 (i+1)]:List (List UInt8)).flatten=fh k info i++info++be 1 (i+1):=by simp
  have al:=HS.out i;have q0:=HP.out i;have q3:=HB.out i;have N:([fh k info i,info,be 1 (i+1)]:List (List UInt8)).flatten.length<=1900:=by rw[Z,Jc,Jc,q3];omega
  have x:=Lib.hid (λT=>uU (.slice (some ⟨gK,0,none⟩) 64 64) (.slice (some ⟨A.heap.size,0,none⟩) 3 3) (bR k) [fh k info i,info,be 1 (i+1)] (A.alloc (.cells #[.slice ab nb cb,.slice ai info.length ci,.slice av nv cv] T)) ((i4.heldAll P).kp ((Kp.refl _).alloc _)) (RL.lit3 M (i2.heldAll P) hT) (by rw[HK.out];omega) N (by simp));rw[Z,al] at x;have Q:∀ (T:TypeId) (p:World) (a c:_),Ow 5 p (A.heap.size+1) (.slice a 32 c) (dn k info i)->Kp (A.alloc (.cells #[.slice ab nb cb,.slice ai info.length ci,.slice av nv cv] T)) p->∀ m,∃ H:Nat->Prop,(∀ j,g j->H j)/\(∀ j,H j->W.heap.size<=j/\j<p.heap.size)/\In (λb=>H b/\¬Y b) (.slice a 32 c)/\Rd (p.setCell ⟨W.heap.size+1,0,none⟩ (.slice a 32 c)) (.slice a 32 c) (dn k info i) /\
    am g A (p.setCell ⟨W.heap.size+1,0,none⟩ (.slice a 32 c)) /\
    YieldAt Fence.wide m prog l #[.slice a 32 c] (p.setCell ⟨W.heap.size+1,0,none⟩ (.slice a 32 c)) λe B=>aT (λj=>H j\/j<w.heap.size) (p.setCell ⟨W.heap.size+1,0,none⟩ (.slice a 32 c)) B/\((e=.returned (.bool true)/\J (i+1) H B)\/(e=.returned (.bool false)/\Jx i H B)):=by
   intro T p a c L kp m;have X:Kp A p:=((Kp.refl A).alloc _).trans kp;have ay:=kp.size;rw[Jn] at ay;have V:am g A (p.setCell ⟨W.heap.size+1,0,none⟩ (.slice a 32 c)):=(am.of_kp X).setCell _ _ (.inr C);have aj:In (λb=>(g b\/(A.heap.size<=b/\b<p.heap.size))/\¬Y b) (.slice a 32 c):=λb o n c' e=>by
    have e2:(Value.slice a 32 c).ownBlock=some b:=by rw[e];rfl
    have h1:=L.own_ge b e2;have h2:=L.lt b e2;exact⟨.inr (by omega),λh=>by have:=(d b (f b h)).2;omega⟩
   have af:Rd (p.setCell ⟨W.heap.size+1,0,none⟩ (.slice a 32 c)) (.slice a 32 c) (dn k info i):=
    L.rd.step (Y:=λb=>b=W.heap.size+1) ((am.refl _ _).setCell _ _ (.inr rfl)) (λb o n c' e h=>by
     have e2:(Value.slice a 32 c).ownBlock=some b:=by rw[e];rfl
     have h1:=L.own_ge b e2;have h2:=(d _ C).2;omega)
   have ak:∀ j,(g j\/(A.heap.size<=j/\j<p.heap.size))->W.heap.size<=j/\j<p.heap.size:=λj h=>by
    have:=(d _ C).2;rcases h with h|h
    ·have:=d j h;omega
    ·omega
   refine⟨λj=>g j\/(A.heap.size<=j/\j<p.heap.size),λj h=>.inl h,ak,aj,af,V,?_⟩;refine HY.out i _ _ _ m hi (HJ.out i g _ A _ q d V (λj h=>h.imp id (λh=>by simpa using h))) (λj h=>by simpa using ak j h) (P.trans (aT.of_step V (λj q h=>by have:=d j h;omega))) ⟨af,λb o n c' e=>(aj b o n c' e).1⟩
  have ap:=Lib.hid Q;clear al q0 q3 Z N hT Q;gi_wp2_with (refine⟨trivial,?_⟩;gi_at_call 200;refine(CallsIn.inRound l' (callsIn_wide.2 (x.out _))).mono ?_;rintro e p ⟨⟨a3,c3,rfl,L⟩,k3⟩;rw[Jn] at L;have d4:=((S.kp ((Kp.refl A).alloc _)).kp k3);have d3:=((U.kp ((Kp.refl A).alloc _)).kp k3).cell;have aF:=d4.cell;have aE:=d4.frozen;obtain⟨H,s,g2,g3,g4,g5,fn,tmps,assign,body,hy,G⟩:=ap.out _ p a3 c3 L k3 3)
  have az:=k3.size;rw[Jn] at az;have aK:=(d _ C).2;have X:Kp A p:=((Kp.refl A).alloc _).trans k3;obtain⟨W4,E⟩:∃ W4,p.setCell ⟨W.heap.size+1,0,none⟩ (.slice a3 32 c3)=W4:=⟨_,rfl⟩;have au:One 24 W4 (W.heap.size+1) (.slice a3 32 c3):=by rw[<-E];exact d4.set _
  have y:∀ j,j<A.heap.size->j≠W.heap.size+1->W4.heap[j]?=A.heap[j]?:=λj h1 h2=>by
   rw[<-E];exact(Below.heap_setCell p _ _ j (by simpa using h2)).trans (X.block j h1)
  have aw:One 187 W4 W.heap.size (.func (.yield l) #[] #[]):=(y _ U.lt (by omega)).trans U;have aJ:W4.heap.size=p.heap.size:=by rw[<-E];simp
  rw[E] at G g4 g5 ⊢;have an:∀ j,Y j->W.heap.size+3<=j:=λj h=>by have:=(aa j h).1;omega
  have aS:=HE.out i;clear aF aE p1 p2 p3 p4 f4 hy d3 d4 x ap M ae S U L;refine RoundIn.mono (F:=Fence.wide.inRound l') G ?_;rintro e B ⟨z,(⟨rfl,aD⟩|⟨rfl,aA⟩)⟩
  ·have ax:=z.size
   have O:aT (λj=>Y j\/j=W.heap.size+1+1) A B:=⟨by omega,λj q h=>(z.block j (by omega) (.inl (h.elim (λh=>s j (f j h)) (λh=>s j (h▸y5))))).trans (y j q (h.elim (λh=>by have:=an j h;omega) (λh=>by omega)))⟩;have aR:aT (λj=>j<w.heap.size) w B:=(P.trans (aT.of_step g5 (λj q h=>by have:=d j h;omega))).trans (z.mono (λj h=>.inr h));have ar:=au.held z (.inl (s _ C));have aI:=aw.held z (.inl (s _ t));have aC:Rd B (.slice a3 32 c3) (dn k info i):=g4.held z (λb o n c e=>.inl (g3 b o n c e).1);clear z g4 g5 y G;gi_wp2
   exact .inl ⟨H,aD,λj h=>s j (f j h),λj h=>by have:=g2 j h;omega,s _ t,s _ C,s _ y5,_,ar,aC,g3⟩
  ·have ax:=z.size
   have O:aT (λj=>Y j\/j=W.heap.size+1+1) A B:=⟨by omega,λj q h=>(z.block j (by omega) (.inl (h.elim (λh=>s j (f j h)) (λh=>s j (h▸y5))))).trans (y j q (h.elim (λh=>by have:=an j h;omega) (λh=>by omega)))⟩;clear z g4 g5 y G;gi_wp2
   exact⟨O,.inr ⟨_,rfl,rfl,H,aA,λj h=>s j (f j h),λj h=>by have:=g2 j h;omega,s _ t⟩⟩
 case done=>
  rintro D Y W2 hD ad aa ⟨g,q,f,d,t,C,y5,_⟩ hd;go_wp2;refine⟨by simp,.inl ⟨_,_,rfl,run_takeDeferred hd,?_⟩⟩;refine⟨_,results_none rfl _ _ _,⟨_,rfl⟩,g,λj h=>by have:=d j h;rw[mw];omega,.inl (HJ.out _ g g W2 _ q d ((am.refl _ _).putObj _ _ (.inr (f _ ad))) (λ_ h=>.inl h))⟩
 case stop=>
  rintro D c i Y W2 hD ad aa hi ⟨rfl,g,hx,f,d,t⟩ hd;go_wp2;refine⟨by simp,.inl ⟨_,_,rfl,run_takeDeferred hd,?_⟩⟩;refine⟨_,results_none rfl _ _ _,⟨_,rfl⟩,g,λj h=>by have:=d j h;rw[mw];omega,.inr ⟨i,hi,aq.out _ g g W2 _ hx d ((am.refl _ _).putObj _ _ (.inr (f _ ad))) (λ_ h=>.inl h)⟩⟩
end
theorem DT (l:List UInt8)(k:Nat):l++List.replicate k 0++[0]=l++List.replicate (k+1) 0:=by
 rw[KN,Mi]
theorem DU (v:Value)(l:List UInt8)(w:World)(h:Rd w v l)(S:l.length<=2000):
  Calls prog 184 #[v] w λe w'=>(∃ C,e=.returned C/\Ow 5 w' w.heap.size C (bR l))/\Kp w w':=by
 have U:=aj;obtain⟨a,c,rfl,h1,V⟩:=h.shape;unfold maxLen at V;have N:=Lib.hid DT;by_cases y:64<l.length
 ·have z:bR l=bF l++List.replicate 32 0:=by unfold bR iF;rw[if_pos y,jd]
  rw[z];have L:=jd l;have x:64<(l.length:Int):=by omega
  obtain⟨D,M⟩:∃ D,bF l=D:=⟨_,rfl⟩;obtain⟨R,m⟩:∃ R:Nat,R=32:=⟨_,rfl⟩;have O:=Lib.hid (jH (.slice a l.length c) l);rw[M] at L O ⊢;rw[show List.replicate 32 (0:UInt8)=List.replicate R 0 from by rw[m]];have B:Hid (D.length+R=64):=by show _=_;omega
  clear z M L m;go_enter func184,ntmps184;go_wp2_with(at_builtin;refine bz U rfl _ _ rfl w.heap.size _ _ rfl (Ow.lit w 5 w.heap.size 0 #[] [] (Ja _) rfl (by decide) rfl) _ l rfl (h.kp ((Kp.refl w).alloc _)) ?d1 ?d2 ?_;rotate_right;intro F w2 E A _;have p:Kp w w2:=Kp.grown ((Kp.refl w).alloc _) A (by intro k e;cases e;exact Ja _);clear A)
  case d1=>simp;omega
  case d2=>simp
  refine(O.out _ (h.kp p) S).mono ?_;rintro e P ⟨⟨Q,rfl,s⟩,K⟩;have t:=s.mono p.size;have u:=p.trans K;clear s E p K;go_wp2_with fail;have g:Ow 5 P w.heap.size Q (D++List.replicate 0 0):=by simpa using t
  clear t;go_loopw[3] (λv wr=>∃ k:Nat,k<=R/\Ow 5 wr w.heap.size v (D++List.replicate k 0)/\Kp w wr) (λv _=>match v with|.slice _ n _=>64 - n|_=>0)
  case atStart=>exact⟨0,by omega,g,u⟩
  case round=>
   clear g u;obtain⟨k,T,j,d⟩:=hrel;have H:=d.size;obtain⟨Z,W,rfl,p1,p2⟩:=j.rd.shape;have b:(D++List.replicate k 0).length=D.length+k:=by rw[Jc];simp
   rw[b] at p1 ⊢;rw[b] at j;unfold maxLen at p2;by_cases I:k<R
   ·have r:=Lib.hid (N.out D k)
    generalize D++List.replicate k 0=X at *;have o:=Lib.hid b;clear b;have f:=B.out;have q:(D.length:Int)+(k:Int)<64:=by omega
    have G:D.length+k<64:=by omega
    clear f;go_wp2_with(at_builtin;refine bz U rfl _ _ rfl w.heap.size _ _ rfl (j.kp ((Kp.refl _).alloc _)) _ [0] rfl (Ow.lit _ 5 0 1 _ _ (Jl _) rfl (by decide) rfl).rd ?c1 ?c2 ?_;rotate_right;intro C w2 i J _)
    case c1=>rw[o.out];simp;omega
    case c2=>simp;omega
    go_roundw
    case rel=>exact⟨k+1,by omega,by rw[<-r.out];exact i,Kp.grown (d.alloc _) J j.own_ge⟩
    case measure=>
     obtain⟨a5,Y,rfl,_⟩:=i.rd.shape;rw[Jc,o.out];simp;omega
   ·obtain rfl:k=R:=by omega
    have f:=B.out;have q:¬(D.length:Int)+(k:Int)<64:=by omega
    have G:¬D.length+k<64:=by omega
    clear f b;go_wp2_with fail;go_ret;exact⟨⟨_,rfl,j⟩,d⟩
 ·have z:bR l=l++List.replicate (64 - l.length) 0:=by unfold bR iF;rw[if_neg y]
  rw[z];have x:¬64<(l.length:Int):=by omega
  obtain⟨R,m⟩:∃ R:Nat,R=64 - l.length:=⟨_,rfl⟩;rw[<-m];have B:Hid (l.length+R=64):=by show _=_;omega
  clear z m;go_enter func184,ntmps184;go_wp2_with(at_builtin;refine bz U rfl _ _ rfl w.heap.size _ _ rfl (Ow.lit w 5 w.heap.size 0 #[] [] (Ja _) rfl (by decide) rfl) _ l rfl (h.kp ((Kp.refl w).alloc _)) ?d3 ?d4 ?_;rotate_right;intro F w2 E A _;have p:Kp w w2:=Kp.grown ((Kp.refl w).alloc _) A (by intro k e;cases e;exact Ja _);clear A)
  case d3=>omega
  have t:Ow 5 w2 w.heap.size F l:=by simpa using E
  have u:=p;clear E p;have g:Ow 5 w2 w.heap.size F (l++List.replicate 0 0):=by simpa using t
  clear t;go_loopw[3] (λv wr=>∃ k:Nat,k<=R/\Ow 5 wr w.heap.size v (l++List.replicate k 0)/\Kp w wr) (λv _=>match v with|.slice _ n _=>64 - n|_=>0)
  case atStart=>exact⟨0,by omega,g,u⟩
  case round=>
   clear g u;obtain⟨k,T,j,d⟩:=hrel;have H:=d.size;obtain⟨Z,W,rfl,p1,p2⟩:=j.rd.shape;have b:(l++List.replicate k 0).length=l.length+k:=by rw[Jc];simp
   rw[b] at p1 ⊢;rw[b] at j;unfold maxLen at p2;by_cases I:k<R
   ·have r:=Lib.hid (N.out l k)
    generalize l++List.replicate k 0=X at *;have o:=Lib.hid b;clear b;have f:=B.out;have q:(l.length:Int)+(k:Int)<64:=by omega
    have G:l.length+k<64:=by omega
    clear f;go_wp2_with(at_builtin;refine bz U rfl _ _ rfl w.heap.size _ _ rfl (j.kp ((Kp.refl _).alloc _)) _ [0] rfl (Ow.lit _ 5 0 1 _ _ (Jl _) rfl (by decide) rfl).rd ?c3 ?c4 ?_;rotate_right;intro C w2 i J _)
    case c3=>rw[o.out];simp;omega
    case c4=>simp;omega
    go_roundw
    case rel=>exact⟨k+1,by omega,by rw[<-r.out];exact i,Kp.grown (d.alloc _) J j.own_ge⟩
    case measure=>
     obtain⟨a5,Y,rfl,_⟩:=i.rd.shape;rw[Jc,o.out];simp;omega
   ·obtain rfl:k=R:=by omega
    have f:=B.out;have q:¬(l.length:Int)+(k:Int)<64:=by omega
    have G:¬l.length+k<64:=by omega
    clear f b;go_wp2_with fail;go_ret;exact⟨⟨_,rfl,j⟩,d⟩
theorem xj (v:Value)(l:List UInt8)(y:UInt8)(w:World)(h:Rd w v l)(G:l.length<=1000000):
  Calls prog 186 #[v,.int .u8 (y.toNat:Int)] w λe w'=>(∃ n,e=.returned n/\Ow 5 w' w.heap.size n (bI l y))/\Kp w w':=by
 have U:=aj;obtain⟨a,c,rfl,H,E⟩:=h.shape;unfold maxLen at E;have r:∀ k,k<l.length->bI (l.take (k+1)) y=bI (l.take k) y++[l.getD k 0 ^^^ y]:=λk s=>by rw[ma l k s,Bc];rfl
 have F:=Lib.hid r;clear r;go_enter func186,ntmps186;go_wp2_with fail;go_loopw[5,6] (λv i wr=>∃ k:Nat,k<=l.length/\i=.int .i64 k/\Ow 5 wr w.heap.size v (bI (l.take k) y)/\Kp w wr) (λ_ i _=>l.length - (intOf i).toNat)
 case atStart=>exact⟨0,by omega,rfl,Ow.nil _ _ _,Kp.refl _⟩
 case round=>
  obtain⟨k,s,rfl,m,f⟩:=hrel;have B:=f.size;by_cases j:k<l.length
  ·obtain⟨b,t,rfl,_,d⟩:=h.at k j
   have D:=f.cell (d k j);have A:=qV (l.getD k 0) y;have g:(bI (l.take k) y).length=k:=by rw[jX];simp;omega
   have p:=Lib.hid (F.out k j);generalize l.getD k 0=x at *;generalize u:x ^^^ y=z at *;generalize bI (l.take k) y=L at *;have q:=Lib.hid g;clear g d u;go_wp2_with(at_builtin;refine bz U rfl _ _ rfl w.heap.size _ _ rfl (m.kp ((Kp.refl _).alloc _)) _ [z] rfl (Ow.lit _ 5 0 1 _ _ (Jl _) rfl (by decide) rfl).rd ?c1 ?c2 ?_;rotate_right;intro n w2 o C _)
   case c1=>rw[q.out];simp;omega
   case c2=>simp;omega
   go_roundw
   case rel=>exact⟨k+1,by omega,by go_num,by rw[p.out];exact o,Kp.grown (f.alloc _) C m.own_ge⟩
   case measure=>simp[intOf];omega
  ·obtain rfl:k=l.length:=by omega
   rw[JM] at m;go_wp2_with fail;go_ret;exact⟨⟨_,rfl,m⟩,f⟩
theorem sj (d v:Value)(k b:List UInt8)(w:World)(L:Rd w d k)(h:Rd w v b)(m:k.length<=2000)(Y:b.length<=1900):
  Calls prog 151 #[d,v] w λe w'=>(∃ p,e=.returned p/\Ow 5 w' w.heap.size p (dZ k b))/\Kp w w':=by
 have U:=aj;obtain⟨av,Z,rfl,X,W⟩:=h.shape;have B:Hid (dZ k b=bF (bI (bR k) 92++bF (bI (bR k) 54++b))):=rfl;have a:=Lib.hid (oX k);have c:=Lib.hid (λy:UInt8=>jX (bR k) y);obtain⟨K,u⟩:∃ K,bR k=K:=⟨_,rfl⟩;have A:=Lib.hid (DU d k w L m);rw[u] at a B c A;have C:=Lib.hid jd;clear u;go_enter func151,ntmps151;go_wp2_with fail;refine A.out.mono ?_;rintro e o ⟨⟨V,rfl,s⟩,l⟩;go_wp2_with fail;refine(xj _ K 54 _ s.rd (by rw[a.out];omega)).mono ?_;rintro e w2 ⟨⟨T,rfl,r⟩,j⟩;go_wp2_with(at_builtin;refine bz U rfl _ _ rfl o.heap.size _ _ rfl r _ b rfl ((h.kp l).kp j) ?c1 j.size ?_;rotate_right;intro S E I z _;have i:Kp o E:=Kp.grown j z r.own_ge;clear z)
 case c1=>rw[c.out,a.out];omega
 refine(jH _ _ _ I.rd (by rw[Jc,c.out,a.out];omega)).mono ?_;rintro e n ⟨⟨R,rfl,H⟩,g⟩;go_wp2_with fail;refine(xj _ K 92 _ (s.rd.kp (i.trans g)) (by rw[a.out];omega)).mono ?_;rintro e N ⟨⟨Q,rfl,q⟩,f⟩;go_wp2_with(at_builtin;refine bz U rfl _ _ rfl n.heap.size _ _ rfl q _ (bF (bI K 54++b)) rfl (H.rd.kp f) ?c2 f.size ?_;rotate_right;intro P D G x _;have t:Kp n D:=Kp.grown f x q.own_ge;clear x)
 case c2=>rw[c.out,a.out,C.out];omega
 refine(jH _ _ _ G.rd (by rw[Jc,c.out,a.out,C.out];omega)).mono ?_;rintro e M ⟨⟨O,rfl,F⟩,J⟩;go_wp2_with fail;go_ret;exact⟨⟨_,rfl,by rw[B.out];exact F.mono (((l.trans i).trans g).trans t).size⟩,(((l.trans i).trans g).trans t).trans J⟩
theorem DV (z v:Value)(k:List UInt8)(ls:List (List UInt8))(w:World)(I:Rd w z k)(h:RL w v ls)(u:k.length<=2000)(H:ls.flatten.length<=1900)(O:ls.length<1000000):
  Calls prog 190 #[z,v] w λe w'=>(∃ q,e=.returned q/\Ow 5 w' w.heap.size q (dZ k ls.flatten))/\Kp w w':=by
 have U:=aj;obtain⟨a,c,rfl,Q,J⟩:=h.shape;unfold maxLen at J;have D:=Lib.hid (uP ls);have K:=Lib.hid (uQ ls);have l:(ls.take ls.length).flatten=ls.flatten:=by rw[JM]
 have L:=Lib.hid l;clear l;go_enter func190,ntmps190;go_wp2_with fail;go_loopw[5,6] (λv i wr=>∃ k:Nat,k<=ls.length/\i=.int .i64 k/\Ow 5 wr w.heap.size v (ls.take k).flatten/\Kp w wr) (λ_ i _=>ls.length - (intOf i).toNat)
 case atStart=>exact⟨0,by omega,rfl,Ow.nil _ _ _,Kp.refl _⟩
 case round=>
  obtain⟨j,P,rfl,p,d⟩:=hrel;have r:=d.size;by_cases g:j<ls.length
  ·obtain⟨b,E,rfl,_,f⟩:=h.at j g
   obtain⟨aa,o,n⟩:=f j g;have C:=d.cell o;have m:=n.kp d;have A:=congrArg List.length (D.out j g);rw[Jc] at A;have t:=K.out (j+1);have B:(List.take j ls).flatten.length+(ls.getD j []).length<=1900:=by omega
   have y:=Lib.hid (D.out j g);generalize ls.getD j []=X at *;generalize (ls.take j).flatten=Y at *;clear f n A o t;go_wp2_with(at_builtin;refine bz U rfl _ _ rfl w.heap.size _ _ rfl p _ X rfl m ?c1 r ?_;rotate_right;intro q w2 s x _)
   case c1=>omega
   go_roundw
   case rel=>exact⟨j+1,by omega,by go_num,by rw[y.out];exact s,Kp.grown d x p.own_ge⟩
   case measure=>simp[intOf];omega
  ·obtain rfl:j=ls.length:=by omega
   rw[L.out] at p;go_wp2_with fail;refine(sj _ _ k ls.flatten _ (I.kp d) p.rd u H).mono ?_;rintro e M ⟨⟨N,rfl,F⟩,G⟩;go_wp2_with fail;go_ret;exact⟨⟨_,rfl,F.mono d.size⟩,d.trans G⟩

import Derived.Test.YthmhklmkgkfcpaaGreatDoorX5
import Derived.Test.YthmhklmkgkfcpaaGreatDoorX8
import Derived.WalkMore
set_option linter.all false
set_option maxHeartbeats 8000000
set_option maxRecDepth 100000
namespace Go.Proofs.YthmhklmkgkfcpaaGreatDoor
open Go.Proofs.Tryz Go.RowKit
variable {A B w w':World}{P:Program}{Q:Exit->Act->World->Prop}{T e t:TypeId}{Y:Nat->Prop}{a:Act}{b g k p:Nat}{d l:List UInt8}{o:Oper}{v:Value}{xs:List Value}
structure bM (P:Program)(t e:TypeId):Prop where
 ht:P.underlying t=some (.slice e)
 hi:∃ i z,P.info? e=some i/\i.zero=some z/\i.size=1/\i.bytes<=64/\z.cells.size=1
theorem bM.mk' {z:Value}(g:P.underlying t=some (.slice e))(h:(P.info? e).map (λi=>(i.zero,i.size,i.bytes))=some (some z,1,b))(k:b<=64)(f:z.cells.size=1):bM P t e:=by
 obtain⟨i,j,c,a,d⟩:=info_parts h;exact⟨g,i,z,j,c,a,by omega,f⟩
theorem qP (S:bM P t e){l:Array Oper}{rest:List Oper}(q:o.guard=none)(s x:Operand)
  (K:o.op=.call { callee:=.builtin .append,args:=#[s,x],argTypes:=#[t,t] })
  (B:Nat) (v:Value) (us:List Value) (J:a.eval s=v) (b:w.ownsRow B e 1 v us.length us) (u:Value) (d:List Value) (I:a.eval x=u) (N:di w u d) (H:∀ z∈d,z.oneCell'=true)
  (n:us.length+d.length<=1000000000000) (k:B<=w.heap.size)
  (h:∀ r w',w'.ownsRow B e 1 r (us++d).length (us++d)->w.grownBy w' v.ownBlock->wpList P l Q rest (a.put o.dst r) w'):wpList P l Q (o :: rest) a w:=by
 obtain⟨i,z,L,M,f,G,C⟩:=S.hi
 obtain⟨A,c,rfl,T,R,m,g⟩:=N
 cases A with
 | none=>
  have F:=m rfl
  have D:d=[]:=Kg (by omega)
  subst D
  subst F
  refine wpList_append_own_none q s x t K B e i 1 S.ht L v us.length us J b I ?_
  exact h v w (by simpa using b) ⟨rfl,rfl,rfl,JO _,λ_ _ _=>rfl⟩
 | some A=>
  refine wpList_append_own w q s x t K B e i z 1 i.bytes S.ht L M f rfl C (by decide) v us.length us J b A d.length c d I (by omega) (λj y E=>?_) H (by unfold maxLen;omega) ?_ k
   (λr w' H O U=>h r w' (by rw[JQ];exact H) O)
  ·have p:j<d.length:=(Ks.1 E).1
   rw[JG p] at E
   cases E
   exact g A rfl j p
  ·have:=LS n G
   omega
theorem Al (U:U8 P t e){K:Act->World->Prop}(s x:Operand)
  (J:o.op=.call { callee:=.builtin .append,args:=#[s,x],argTypes:=#[t,t] })
  (B:Nat) (v:Value) (l:List UInt8) (I:a.eval s=v) (d:Ow e w B v l) (u:Value) (m:List UInt8) (H:a.eval x=u) (N:Rd w u m)
  (L:l.length+m.length<=140737488355328) (n:B<=w.heap.size)
  (h:∀ p w',Ow e w' B p (l++m)->w.grownBy w' v.ownBlock->(p=.slice none 0 0->l=[]/\m=[])->K (a.put o.dst p) w'):o.wp P a w K Q:=by
 obtain⟨i,M,C,f,G⟩:=U.hi
 obtain⟨A,c,rfl,Y,X,r,k⟩:=N
 cases A with
 | none=>
  have F:=r rfl
  have D:m=[]:=Kg (by omega)
  subst D
  subst F
  have q:=run_append_owned_none (P:=P) (w:=w) B t o.type e i 1 U.ht M v l.length (Lib.byteCells l) d
  have T:=h v w (by simpa using d) ⟨rfl,rfl,rfl,JO _,λ_ _ _=>rfl⟩ (λe=>by
   subst e
   rcases d.shape with⟨_,h⟩|⟨g,c,h,_⟩
   ·exact⟨h,rfl⟩
   ·cases h)
  unfold Oper.wp
  simp[execOp,J,resolve,invoke,builtin,I,H,q,Result.andThen]
  exact T
 | some A=>
  refine wp_append_own w s x t J B e i (.int .u8 0) 1 1 U.ht M C f G rfl (by decide) v l.length (Lib.byteCells l) I d A m.length c (Lib.byteCells m) H (by rw[cO];omega) (λj z E=>?_) (λz C=>?_) (by unfold maxLen;omega) (by omega) n
   (λp w' S R O=>h p w' (by unfold Ow;rw[JQ,mr];exact S) R (λe=>?_))
  ·have y:j<m.length:=by
    have:=(Ks.1 E).1
    rwa [cO] at this
   rw[gC m j y] at E
   cases E
   exact k A rfl j y
  ·obtain⟨b,_,rfl⟩:=KN.1 C
   rfl
  ·obtain⟨W,V⟩:=O.1 e
   subst W
   rcases d.shape with⟨_,h⟩|⟨g,c,h,_⟩
   ·exact⟨h,Kg V⟩
   ·cases h
theorem Rd.one (h:Rd w v l):v.oneCell'=true:=by
 obtain⟨a,c,rfl,_⟩:=h.shape;rfl
theorem oN (w:World)(e:TypeId)(u:Value):(w.alloc (.cells #[u] e)).ownsRow w.heap.size e 1 (.slice (some ⟨w.heap.size,0,none⟩) 1 1) [u].length [u]:=
 LJ w #[u] 1 (JO _) (by unfold maxLen;omega) rfl
theorem One.same {X:Nat->Prop}(h:One T w p v)(k:bg X w w')(a:¬X p):One T w' p v:=(k.block p h.lt a).trans h
theorem BW (i n c:Nat)(x y:UInt8)(p o g:Nat)(s r:TypeId)(m:List UInt8)(w:World)(l:i<m.length)(j:m.length=n)(d:One s w p (.int .u8 (y.toNat:Int)))(f:One r w o (.slice (some ⟨g,0,none⟩) n c))(b:By 5 w g m)(h:n<=1000000):
  Calls prog 262 #[.int .i64 i,.int .u8 (x.toNat:Int),.pointer (some ⟨p,0,none⟩),.pointer (some ⟨o,0,none⟩)] w λe w'=>e=.returned (.tuple #[])/\w.setCell ⟨g,i,none⟩ (.int .u8 ((x ^^^ y).toNat:Int))=w':=by
 have u:=d.cell;have v:=f.cell;have A:=b.cell i l;have t:=b.frozen i;have q:=rC x y;have k:i<n:=by omega
 obtain⟨z,a⟩:∃ z:Int,z=((x ^^^ y).toNat:Int):=⟨_,rfl⟩;rw[<-a] at q ⊢;clear a j;go_enter func262,ntmps262;go_wp2_with fail;go_end0
 exact⟨rfl,rfl⟩
theorem BX (l:List UInt8)(y:UInt8)(k:Nat)(h:k<l.length):(aM (List.replicate l.length 0) (bK l y) k).set k (l.getD k 0 ^^^ y)=aM (List.replicate l.length 0) (bK l y) (k+1):=
 io _ _ k (by simp[kq]) (by simpa using h) _ (Bw l y k h)
theorem BY (v:Value)(l:List UInt8)(y:UInt8)(p o g c:Nat)(J I:TypeId)(w j:World)(h:Rd w v l)(P:l.length<=1000000)(D:Kp w j)(E:w.heap.size<=g)
  (N:One J j p (.int .u8 (y.toNat:Int))) (O:One I j o (.slice (some ⟨g,0,none⟩) l.length c)) (A:p≠g) (C:o≠g) (H:By 5 j g (List.replicate l.length 0)):
  Calls prog 260 #[v,.func (.func 262) #[] #[.pointer (some ⟨p,0,none⟩),.pointer (some ⟨o,0,none⟩)]] j λe w'=>e=.returned (.tuple #[])/\By 5 w' g (bK l y)/\bg (λk=>k=g) j w'/\Kp w w':=by
 obtain⟨a,X,rfl,W,R⟩:=h.shape;unfold maxLen at R;have T:=JE (BX l y);have m:aM (List.replicate l.length 0) (bK l y) l.length=bK l y:=by
  have:=jG (List.replicate l.length 0) (bK l y) (by simp[kq]);rwa [kq] at this
 have U:=JE m;have t:aM (List.replicate l.length 0) (bK l y) 0=List.replicate l.length 0:=by simp[aM]
 have s:By 5 j g (aM (List.replicate l.length 0) (bK l y) 0):=by rw[t];exact H
 have K:Hid (∀ k,k<=l.length->(aM (List.replicate l.length 0) (bK l y) k).length=l.length):=λk D=>by
  rw[fX _ _ _ (by simp[kq]) (by simpa using D)];simp
 clear m t H;go_enter func260,ntmps260;go_wp2_with fail;go_loopw[8] (λi wr=>∃ k:Nat,k<=l.length/\i=.int .i64 k/\By 5 wr g (aM (List.replicate l.length 0) (bK l y) k)/\bg (λk=>k=g) j wr/\Kp w wr) (λi _=>(l.length - (intOf i).toNat))
 case atStart=>exact⟨0,by omega,rfl,s,bg.refl _ _,D⟩
 case round=>
  clear s;obtain⟨k,r,rfl,F,u,n⟩:=hrel;by_cases f:k<l.length
  ·obtain⟨b,L,rfl,_,d⟩:=h.at k f
   have Q:=n.cell (d k f);have z:=N.same u A;have B:=O.same u C;have S:=JE (BW k l.length c (l.getD k 0) y p o g J I _ wr (by rw[K.out k r];exact f) (K.out k r) z B F P);have q:=T.out k f;have G:=JE q;clear q d;generalize M:l.getD k 0=x at *;clear M;go_wp2_with(go_at_call 262;refine S.out.mono ?_;rintro e V ⟨rfl,rfl⟩)
   go_roundw
   case rel=>exact⟨k+1,by omega,by go_num,F.set k _ G.out,u.setCell _ _ rfl,Below.setCell n E _⟩
   case measure=>simp[intOf];omega
  ·obtain rfl:k=l.length:=by omega
   go_wp2_with fail;go_end0
   exact⟨rfl,by rw[<-U.out];exact F,u,n⟩
theorem vj (v:Value)(l:List UInt8)(y:UInt8)(w:World)(h:Rd w v l)(r:l.length<=1000000):
  Calls prog 236 #[v,.int .u8 (y.toNat:Int)] w λe w'=>(∃ g,e=.returned (.slice (some ⟨g,0,none⟩) l.length l.length)/\By 5 w' g (bK l y)/\w.heap.size<=g)/\Kp w w':=by
 obtain⟨a,E,rfl,D,x⟩:=h.shape;unfold maxLen at x;have i:One 5 (w.alloc (.cells #[.int .u8 (y.toNat:Int)] 5)) w.heap.size (.int .u8 (y.toNat:Int)):=Oh _ _ _;have k:∀ W,W=(w.alloc (.cells #[.int .u8 (y.toNat:Int)] 5)).alloc (.cells (Array.replicate l.length (.int .u8 0)) 5)->By 5 W (w.heap.size+1) (List.replicate l.length 0):=λW u=>by
  subst u;have:=By.fresh 5 (w.alloc (.cells #[.int .u8 (y.toNat:Int)] 5)) l.length;rwa [JY] at this
 have B:=JE k;have A:=JE i;clear k i;go_enter func236,ntmps236;go_wp2_with(at_make;refine jk (z:=.int .u8 0) (b:=1) underlying24 Og rfl (by decide) rfl _ _ rfl l.length rfl rfl r ?_;intro f c;have j:=B.out f c;have m:One 5 f w.heap.size (.int .u8 (y.toNat:Int)):=(by rw[c];exact A.out.kp ((NQ _).alloc _));have o:Kp w f:=(by rw[c];exact((NQ w).alloc _).alloc _);have s:=j.lt;clear c)
 have d:One 24 (f.alloc (.cells #[.slice (some ⟨w.heap.size+1,0,none⟩) l.length l.length] 24)) f.heap.size (.slice (some ⟨w.heap.size+1,0,none⟩) l.length l.length):=Oh _ _ _;refine(BY _ l y w.heap.size f.heap.size (w.heap.size+1) l.length _ _ w _ h r (o.alloc _) (by omega) (m.kp ((NQ _).alloc _)) d (by omega) (by omega) (j.kp ((NQ _).alloc _))).mono ?_;rintro e C ⟨rfl,p,q,n⟩;have t:=(d.same q (by omega)).cell;clear d;go_wp2_with fail;go_ret;exact⟨⟨_,rfl,p,by omega⟩,n⟩
section
open Go.Shelf
attribute [local go_sem] Oper.semAt_some
theorem One.step (h:One T w p v)(k:az Y w w')(a:¬Y p):One T w' p v:=(k.block p h.lt a).trans h
theorem One.held (h:One T w p v)(k:aR Y w w')(a:Y p):One T w' p v:=(k.block p h.lt a).trans h
theorem Ow.lt {B:Nat}(h:Ow e A B v l):∀ g,v.ownBlock=some g->g<A.heap.size:=λg a=>(KU h g a).2
theorem Rd.held {R:Nat->Prop}(h:Rd A v l)(m:aR R A B)(k:∀ b o n c,v=.slice (some ⟨b,o,none⟩) n c->R b):Rd B v l:=by
 obtain⟨a,c,rfl,t,s,r,j⟩:=h;refine⟨a,c,rfl,t,s,r,λx e i p=>?_⟩;have q:=j x e i p;subst e;obtain⟨b,o,d⟩:=x;have g:=MJ (j _ rfl 0 (by omega));have f:d=none:=by simpa [Addr.add] using g
 subst f;exact m.cell q (by
  have:((⟨b,o,none⟩:Addr).add i).block=b:=by unfold Addr.add;split <;> rfl
  rw[this];exact k b o _ c rfl)
theorem pk {a:World}{n c:Nat}(h:A.ownsRow b e 1 (.slice (some ⟨g,0,none⟩) n c) k xs)(d:az Y A a)(f:¬Y g):a.ownsRow b e 1 (.slice (some ⟨g,0,none⟩) n c) k xs:=by
 refine⟨h.1,?_⟩;rcases h.2 with⟨hn,_⟩|⟨g',cap,cur,e',hb,hg,rest⟩
 ·cases hn
 ·have i:g=g':=by simpa [Value.ownBlock] using congrArg Value.ownBlock e'
  subst i;exact .inr ⟨g,cap,cur,e',hb,(d.block g (JK.1 hg).1 f).trans hg,rest⟩
theorem Ow.kp' {f:World}(h:A.ownsRow b e 1 v k xs)(i:Kp A f):f.ownsRow b e 1 v k xs:=by
 refine⟨h.1,?_⟩;rcases h.2 with j|⟨g,c,a,rfl,l,d,rest⟩
 ·exact .inl j
 ·exact .inr ⟨g,c,a,rfl,l,(i.block g (JK.1 d).1).trans d,rest⟩
theorem vl (w:World)(T:TypeId)(aa:Value):∀ j v,[aa][j]?=some v->(w.alloc (.cells #[aa] T)).cell? ((⟨w.heap.size,0,none⟩:Addr).add j)=some v:=by
 intro j v h
 cases j with
 | zero=>simp at h;subst h;exact(Oh T w aa).cell
 | succ j=>simp at h
theorem pl {a w2:World}(k:Kp w a)(c:a.grownBy w2 (some g))(h:One T w p v)(b:p≠g):One T w2 p v:=
 (c.block p (h.kp k).lt (λe=>b (by cases e;rfl))).trans (h.kp k)
theorem BZ (n N:Nat)(B:Nat->List UInt8)(gf:Nat)(lb:Array Value)(R:Nat->Prop)(w:World)(hB:∀ i,(B i).length=32)(hn:n<=32*N)(ak:n<=1000000)
  (eg:∀ args w,(callFunc gf args).run prog w=.ok (.enter gf args) w) (hR:∀ k,R k->k<w.heap.size)
  (aw:oL prog gf lb (λi v Y A=>Rd A v (B i)/\∀ b o n c,v=.slice (some ⟨b,o,none⟩) n c->Y b) N R w):
  Calls prog 169 #[.int .i64 n,.func (.func gf) #[] lb] w λe w'=>(∃ v,e=.returned v/\Ow 5 w' w.heap.size v (jm B n))/\Kp w w':=by
 have U:=aj;obtain⟨i0,J,ae,I,ap⟩:=info_parts Og;by_cases h0:n=0
 ·subst h0
  rw[BT];go_enter func169,ntmps169;go_wp2;go_step3
  go_wp2_with(at_make;refine wpList_make_own _ rfl _ _ 24 rfl w.heap.size 5 i0 (.int .u8 0) 1 underlying24 J ae I _ _ _ 0 rfl rfl rfl (by omega) (by unfold maxLen;omega) (by simp) ?_;intro a t M;have O:=Below.grown (Below.refl _ _) M (JO _) (by intro k e;cases e);have C:=One.kp (Oh 3 w (.int .i64 0)) O;have cn:=C.cell;have an:∀ o,(a.alloc o).cell? ⟨w.heap.size,0,none⟩=_:=(λo=>Kp.cell ((NQ a).alloc o) cn);have T:=O.size;rw[JY] at T)
  rw[Exit.noGoto_ret];go_ret;refine⟨⟨_,rfl,Ow.kp (l:=[]) (by rw[JY] at t;exact t) ((NQ _).alloc _)⟩,(((NQ w).alloc _).trans O).alloc _⟩
 ·have aJ:¬(n:Int)=0:=by omega
  refine(callsIn_wide (n:=4)).1 ?_;refine callsIn_of_wp_marks func169 rfl trivial ?_ rfl;refine wpIn_wide.2 ?_;simp only[ntmps169,Lj,Lk,Kf,Ka,Nat.reduceAdd,Nat.reduceSub,Lg,Lh,Lq,La,Ll];go_wp2;go_step3
  go_wp2_with(at_make;refine wpList_make_own _ rfl _ _ 24 rfl w.heap.size 5 i0 (.int .u8 0) 1 underlying24 J ae I _ _ _ n rfl rfl rfl (by rw[ap];omega) (by unfold maxLen;omega) (by simp) ?_;intro a t M;have O:=Below.grown (Below.refl _ _) M (JO _) (by intro k e;cases e);have C:=One.kp (Oh 3 w (.int .i64 n)) O;have cn:=C.cell;have an:∀ o,(a.alloc o).cell? ⟨w.heap.size,0,none⟩=_:=(λo=>Kp.cell ((NQ a).alloc o) cn);have T:=O.size;rw[JY] at T)
  go_step3
  go_wp2;rw[JY] at t;obtain⟨W0,F⟩:∃ W0,a.alloc (.cells #[.slice (some ⟨w.heap.size+1,0,none⟩) 0 n] 24)=W0:=⟨_,rfl⟩;have aI:W0.heap.size=a.heap.size+1:=by rw[<-F];simp
  have ab:One 24 W0 a.heap.size (.slice (some ⟨w.heap.size+1,0,none⟩) 0 n):=by rw[<-F];exact Oh _ _ _
  have k0:Kp a W0:=by rw[<-F];exact(NQ _).alloc _
  have X:W0.ownsRow w.heap.size 5 1 (.slice (some ⟨w.heap.size+1,0,none⟩) 0 n) 0 (Lib.byteCells []):=Ow.kp (l:=[]) t k0;have Z:=C.kp k0;have ad:Kp w W0:=(((NQ w).alloc _).trans O).trans k0;have ay:w.heap.size+1<a.heap.size:=(KU t _ rfl).2;rw[F];have HB:=JE hB;clear F t C cn an M k0 hB O;refine tY (R:=R) rfl eg ad hR aw rfl
   (λi Y A=>One 24 A a.heap.size (.slice (some ⟨w.heap.size+1,0,none⟩) (32*i) n)/\A.ownsRow w.heap.size 5 1 (.slice (some ⟨w.heap.size+1,0,none⟩) (32*i) n) (32*i) (Lib.byteCells (dw B i))/\One 3 A w.heap.size (.int .i64 n)/\Kp w A/\32*i<n)
   (λc i Y A=>c=.exit 0/\One 24 A a.heap.size (.slice (some ⟨w.heap.size+1,0,none⟩) n n)/\A.ownsRow w.heap.size 5 1 (.slice (some ⟨w.heap.size+1,0,none⟩) n n) n (Lib.byteCells (jm B n))/\Kp w A)
   ?mI ?mIx ?TT ⟨ab,X,Z,ad,by omega⟩
   (λv a' _=>a'={ tmps:=#[.int .i64 n,.func (.func gf) #[] lb,.pointer (some ⟨w.heap.size,0,none⟩),undef,.slice none 0 0,.pointer (some ⟨a.heap.size,0,none⟩),v,undef,undef,.int .i64 n,.slice (some ⟨w.heap.size+1,0,none⟩) 0 n,.int .i64 n,.bool false,undef,.func (.func gf) #[] lb,v,undef,undef,undef,undef,undef,undef,undef,undef,undef,undef,undef,undef,undef,undef,undef,undef],defers:=[] })
   (λ_ _ _ _ _ _ h _ _=>h) ?assign ?body ?done ?stop
  case mI=>
   rintro i Y Y' A A' ⟨r,g,H,s,P⟩ hY G hg;have u:∀ k,Y k->k≠a.heap.size/\k≠w.heap.size+1/\k≠w.heap.size:=λk y=>by have:=hY k y;omega
   exact⟨r.step G (λe=>(u _ e).1 rfl),pk g G (λe=>(u _ e).2.1 rfl),H.step G (λe=>(u _ e).2.2 rfl),Below.trans s (G.below s.size (λk y=>by have:=hY k y;omega)),P⟩
  case mIx=>
   rintro c i Y Y' A A' ⟨h0,r,g,s⟩ hY G hg;have u:∀ k,Y k->k≠a.heap.size/\k≠w.heap.size+1/\k≠w.heap.size:=λk y=>by have:=hY k y;omega
   exact⟨h0,r.step G (λe=>(u _ e).1 rfl),pk g G (λe=>(u _ e).2.1 rfl),Below.trans s (G.below s.size (λk y=>by have:=hY k y;omega))⟩
  case TT=>
   rintro i v Yi Y A A' l o ⟨hr,hv⟩ aq _ _ hl G;exact⟨hr.turn hl rfl G,λb o n c e=>aq _ (hv b o n c e)⟩
  case assign=>
   intro l i Y Yi v A K hI hT hK;gi_wp2
   exact hK _ _ (NQ _) rfl
  case body=>
   rintro l i Y v a' A hi ⟨r,g,H,s,P⟩ ar aN ⟨V,Q⟩ rfl;clear ab X Z;have al:=HB.out i;obtain⟨av,cv,rfl,q1,q2⟩:=V.shape;unfold maxLen at q2;rw[al] at Q q1;gi_wp2
   gi_loopw [18] (λp wr=>∃ j:Nat,j<=32/\p=.int .i64 j/\One 24 wr a.heap.size (.slice (some ⟨w.heap.size+1,0,none⟩) (32*i+j) n)/\wr.ownsRow w.heap.size 5 1 (.slice (some ⟨w.heap.size+1,0,none⟩) (32*i+j) n) (32*i+j) (Lib.byteCells (dw B i++(B i).take j))/\One 3 wr w.heap.size (.int .i64 n)/\Kp w wr/\aR (λk=>Y k\/R k) A wr/\32*i+j<n) (λp _=>32 - (intOf p).toNat)
   case atStart=>exact⟨0,by omega,rfl,r,by simpa using g,H,s,aR.refl _ _,P⟩
   case round=>
    clear r g H s P;obtain⟨j,hj,rfl,r,g,H,s,hh,P⟩:=hrel;by_cases au:j<32
    ·obtain⟨b,ao,rfl,_,E⟩:=V.at j (by omega)
     have aM:=hh.cell (E j (by omega)) (.inl (Q b ao _ _ rfl));have aL:(j:Int)<32:=by omega
     have S:=mn (B i) j (by omega);have HH:=JE (λh=>BS B HB.out n i j au h);rw[S] at HH;obtain⟨K,hK⟩:∃ K,32*i+j=K:=⟨_,rfl⟩;have HK:=JE hK;obtain⟨L,hL⟩:∃ L,dw B i++(B i).take j=L:=⟨_,rfl⟩;have HL:Hid (dw B i++(B i).take (j+1)=L++[(B i).getD j 0]):=by show _=_;rw[S,<-LQ,hL]
     rw[<-LQ,hL] at HH;have hg:w.heap.size+1<wr.heap.size:=(KU g _ rfl).2;rw[hK] at r g P;rw[hL] at g;generalize hx:(B i).getD j 0=x at *;have ah:∀ k,Y k\/R k->k≠a.heap.size/\k≠w.heap.size+1:=λk y=>by
      rcases y with h|h
      ·have:=ar k h;omega
      ·have:=hR k h;omega
     have aG:=JE ah;have c1:=r.cell;have aH:¬a.heap.size=w.heap.size:=by omega
     have ai:¬w.heap.size=a.heap.size:=by omega
     have aK:j<(B i).length:=by omega
     clear S hK hL E hx ah V Q al;have hq:decide ((K:Int)+1=n)=decide (K+1=n):=by congr 1;exact propext ⟨λh=>by omega,λh=>by omega⟩
     have ag:((K:Int)+1==(n:Int))=decide (K+1=n):=by rw[<-hq];rfl
     clear hq;have am:∀ w2:World,(wr.alloc (.cells #[.int .u8 (x.toNat:Int)] 5)).grownBy w2 (some (w.heap.size+1))->w2.ownsRow w.heap.size 5 1 (.slice (some ⟨w.heap.size+1,0,none⟩) (K+1) n) (K+1) (Lib.byteCells L++[.int .u8 (x.toNat:Int)]) ->
       One 24 w2 a.heap.size (.slice (some ⟨w.heap.size+1,0,none⟩) K n)->One 3 w2 w.heap.size (.int .i64 n)->∀ W,w2.setCell ⟨a.heap.size,0,none⟩ (.slice (some ⟨w.heap.size+1,0,none⟩) (K+1) n)=W ->
       One 24 W a.heap.size (.slice (some ⟨w.heap.size+1,0,none⟩) (K+1) n)/\W.ownsRow w.heap.size 5 1 (.slice (some ⟨w.heap.size+1,0,none⟩) (K+1) n) (K+1) (Lib.byteCells (L++[x]))/\One 3 W w.heap.size (.int .i64 n)/\Kp w W/\aR (λk=>Y k\/R k) A W:=by
      intro w2 d z f ak W hW;subst hW;have ax:a.heap.size≠w.heap.size+1:=by omega
      refine⟨f.set _,?_,ak.step ((NU (λk=>k=a.heap.size) w2).setCell _ _ (.inr rfl)) (λe=>ai e),Below.setCell (Below.grown (Below.trans s (((NQ wr).alloc _).mono s.size)) d (by have:=s.size;simp;omega) (λk e=>by cases e;omega)) (by simp;omega) _,?_⟩
      ·rw[mr]
       exact pk z ((NU (λk=>k=a.heap.size) w2).setCell _ _ (.inr rfl)) (λe=>ax e.symm)
      ·refine hh.trans ⟨Kd (by simp) (Kd d.size (by simp)),λk y hr=>?_⟩
       obtain⟨r,g⟩:=aG.out k hr;exact(Below.heap_setCell w2 _ _ k (λe=>r (by simpa using e))).trans ((d.block k (by simp;omega) (λe=>g (by cases e;rfl))).trans (Below.heap_alloc wr _ k y))
     by_cases q:K+1=n
     ·rw[Ke q] at ag
      gi_wp2_with (gi_at_builtin;refine wpListIn_append_fits _ rfl _ _ 24 rfl w.heap.size 5 i0 1 U.ht J I (w.heap.size+1) K n _ rfl (Ow.kp' g ((NQ _).alloc _)) ⟨wr.heap.size,0,none⟩ 1 1 [.int .u8 (x.toNat:Int)] rfl rfl (vl wr _ _) (by intro aa hu;simp at hu;subst hu;rfl) (by omega) ?_;intro w2 z d;have f:=pl ((NQ wr).alloc (.cells #[.int .u8 (x.toNat:Int)] 5)) d r (by omega);have m:=pl ((NQ wr).alloc (.cells #[.int .u8 (x.toNat:Int)] 5)) d H (by omega);have aF:=f.cell;have aD:=f.frozen;have aE:=m.cell)
      obtain⟨f1,f2,f3,f4,f5⟩:=am w2 d z f m _ rfl;rw[HH.out (by have:=HK.out;omega)] at f2;rw[q] at f1 f2 f4 f5;exact⟨f5,.inr ⟨_,rfl,rfl,f1,f2,f4⟩⟩
     ·rw[Kb q] at ag
      gi_wp2_with (gi_at_builtin;refine wpListIn_append_fits _ rfl _ _ 24 rfl w.heap.size 5 i0 1 U.ht J I (w.heap.size+1) K n _ rfl (Ow.kp' g ((NQ _).alloc _)) ⟨wr.heap.size,0,none⟩ 1 1 [.int .u8 (x.toNat:Int)] rfl rfl (vl wr _ _) (by intro aa hu;simp at hu;subst hu;rfl) (by omega) ?_;intro w2 z d;have f:=pl ((NQ wr).alloc (.cells #[.int .u8 (x.toNat:Int)] 5)) d r (by omega);have m:=pl ((NQ wr).alloc (.cells #[.int .u8 (x.toNat:Int)] 5)) d H (by omega);have aF:=f.cell;have aD:=f.frozen;have aE:=m.cell)
      obtain⟨f1,f2,f3,f4,f5⟩:=am w2 d z f m _ rfl;go_roundw
      case rel=>exact⟨j+1,by omega,by go_num,by rw[<-Mn,HK.out];exact f1,by rw[<-Mn,HK.out,HL.out];exact f2,f3,f4,f5,by have:=HK.out;omega⟩
      case measure=>simp[intOf];omega
    ·obtain rfl:j=32:=by omega
     have q:dw B i++(B i).take 32=dw B (i+1):=by rw[dw,Ku (by omega)]
     rw[q] at g;gi_wp2
     exact .inl ⟨r,g,P⟩
  case done=>
   rintro D Y W hD aC aB ⟨r,g,H,s,P⟩ hd;omega
  case stop=>
   rintro D c i Y W hD aC aB hi ⟨rfl,r,g,s⟩ hd;have c1:=r.cell;clear ab X Z;go_wp2;rw[Exit.noGoto_ret];have aA:=nA B HB.out n;have af:az (λk=>k=D) W (W.putObj D (.deferred none)):=(NU _ W).putObj _ _ (.inr rfl);refine⟨by simp,.inl ⟨_,_,rfl,run_takeDeferred hd,?_⟩⟩;refine⟨_,results_tmp rfl _ _ _,⟨_,rfl,?_⟩,Below.trans s (af.below s.size (λk y=>by omega))⟩;have H:=pk g af (λe=>by omega);unfold Ow;rw[aA];exact H
theorem Cd (k:Nat)(w:World):
  Calls prog 199 #[.int .i64 k] w λe w'=>e=.returned (.func (.func 234) #[] #[.pointer (some ⟨w.heap.size,0,none⟩)])/\w.alloc (.cells #[.int .i64 k] 3)=w':=by
 go_enter func199,ntmps199;go_wp2;go_ret;exact⟨rfl,rfl⟩
theorem Ce (k N b:Nat)(w:World)(hk:1<=k/\k<=6)(hN:256 ^ k=N+1)(x:w.cell? ⟨b,0,none⟩=some (.int .i64 k)):
  oL prog 234 #[.pointer (some ⟨b,0,none⟩)] (λi v _ A=>Rd A v (be k (i+1))) N (λj=>j=b) w:=by
 intro l J Jx W K ab aa P ad O R;have t:=K.cell x rfl;have T:=JE P;have HY:=JE O;have E:b<w.heap.size:=Kl w _ x;have L:(N:Int)<=281474976710656:=by
  have Q:256 ^ k<=256 ^ 6:=Lm (by omega) hk.2;have h3:(256:Nat) ^ 6=281474976710656:=by decide
  omega
 have HN:Hid (∀ i,i<N->jh ((i:Int)+1) k=0/\fy ((i:Int)+1) k=be k (i+1)):=λi hi=>by
  obtain⟨h1,Q⟩:=iJ (n:=(i:Int)+1) (w:=k) ⟨by omega,by omega,by omega,by
   have:=(lE (i+1) k).2 (by omega);simpa using this⟩
  refine⟨h1,Q.trans ?_⟩;congr 1
 have HE:Hid (jh ((N:Int)+1) k=1):=by
  refine(ln (n:=(N:Int)+1) (w:=k) (λh=>?_)).1;have:=(lE (N+1) k).1 (by simpa using h.2.2.2);omega
 have HH:=JE (JN x E);have o:=JE K;clear P O hN x;refine(callsIn_wide (n:=5)).1 ?_;refine callsIn_of_wp func234 rfl trivial ?_ rfl;simp only[ntmps234,Lj,Lr,Lk,Ka,Kf,Nat.reduceAdd,Nat.reduceSub,Lg,Lh,Lq,La,Ll];gi_wp2
 gi_loopw [3] (λp wr=>∃ (i:Nat) (Y:Nat->Prop),i<=N/\p=.int .i64 ((i:Int)+1)/\wr.cell? ⟨b,0,none⟩=some (.int .i64 k)/\aR (λj=>j=b) w wr/\J i Y wr/\(∀ j,Y j->W.heap.size<=j/\j<wr.heap.size)/\W.heap.size<=wr.heap.size) (λp _=>N+1 - (intOf p).toNat)
 case atStart=>exact⟨0,_,by omega,rfl,t,o.out,R,λ_ h=>h.elim,JO _⟩
 case round=>
  clear t R;obtain⟨i,Y,hi,rfl,M,s,D,c,U⟩:=hrel;have X:prog.follows .mixedOrders=true:=by kernel_rfl
  have Z:prog.follows .lateStores=true:=by kernel_rfl
  by_cases g:i<N
  ·obtain⟨e1,e2⟩:=HN.out i g
   gi_wp2_with (refine⟨trivial,?_⟩;gi_at_call 100;refine(callsIn_wide.2 (kr ((i:Int)+1) k _ (by omega))).mono ?_;rintro e q ⟨H,rfl,u,f⟩;rw[e2] at u;have C:=T.out i Y Y wr q D c (NY f) (λ_ h=>.inl h);have m:=f.cell M;have a:∀ j,Y j->W.heap.size<=j/\j<q.heap.size:=(λj h=>⟨(c j h).1,JV (c j h).2 f.size⟩);have r:=s.trans (aR.of_kp f);have V:=f.size;obtain⟨fn,tmps,y,S,I,G⟩:=HY.out i Y q H 4 g C a r u.rd)
   clear D M c s u;refine G.mono ?_;rintro e w2 ⟨d,(⟨rfl,B⟩|⟨rfl,z⟩)⟩
   ·have F:=d.cell m (.inr rfl)
    clear I G m;gi_wp2
    go_roundw
    case rel=>exact⟨i+1,Y,by omega,by go_num,F,r.trans (d.mono (λ_ h=>.inr h)),B,λj h=>⟨(a j h).1,JV (a j h).2 d.size⟩,by have:=d.size;omega⟩
    case measure=>simp[intOf];omega
   ·clear I G m
    gi_wp2
    refine bodyPost_ret (results_none rfl _ _ _) rfl ?_;exact⟨⟨_,rfl⟩,Y,λj h=>⟨(a j h).1,JV (a j h).2 d.size⟩,.inr ⟨i,g,z⟩⟩
  ·obtain rfl:i=N:=by omega
   have e1:=HE.out;gi_wp2_with (refine⟨trivial,?_⟩;gi_at_call 100;refine(callsIn_wide.2 (kr ((i:Int)+1) k _ (by omega))).mono ?_;rintro e q ⟨H,rfl,u,f⟩)
   refine⟨λ_ h=>(by cases h),?_⟩;gi_wp2
   refine bodyPost_ret (results_none rfl _ _ _) rfl ?_;exact⟨⟨_,rfl⟩,Y,λj h=>⟨(c j h).1,JV (c j h).2 f.size⟩,.inl (T.out i Y Y wr q D c (NY f) (λ_ h=>.inl h))⟩
end
theorem info24:(prog.info? 24).map (λi=>(i.zero,i.size,i.bytes))=some (some (.slice none 0 0),1,24):=by kernel_rfl
theorem vu:bM prog 115 24:=bM.mk' underlying115 info24 (by decide) rfl
theorem vC (n v:Value)(lb:List UInt8)(ls:List (List UInt8))(w:World)(s:Rd w n lb)(h:RL w v ls)(N:0<lb.length)(P:lb.length+ls.flatten.length<=2000)(O:ls.length<1000000):
  Calls prog 235 #[n,v] w λe w'=>(∃ a c,e=.returned (.slice a 32 c)/\Ow 5 w' w.heap.size (.slice a 32 c) (bJ (lb++ls.flatten)))/\Kp w w':=by
 have S:=vu;obtain⟨us,q,b,f⟩:=h;have t:∀ z∈us,z.oneCell'=true:=λz G=>by
  obtain⟨i,j,rfl⟩:=Ld G;have:=f i (by omega);rw[JF,JG j] at this;exact this.one
 have y:=JE (JN b t);have r:us.length<1000000:=by omega
 have H:=JE f;clear b t f;obtain⟨x,u,rfl,M,D⟩:=s.shape;obtain⟨T,Q,rfl,L,C⟩:=q.shape;unfold maxLen at D C;have I:=JE (oN w 24 (.slice x lb.length u));go_enter func235,ntmps235;go_wp2_with(at_builtin;refine qP S rfl _ _ rfl w.heap.size _ [.slice x lb.length u] rfl I.out _ us rfl (q.kp ((NQ _).alloc _)) y.out.2 (by simp;omega) (by simp) ?_;intro o w2 g l;have d:Kp w w2:=NS ((NQ _).alloc _) l (by intro k e;cases e;exact JO _))
 have m:RL w2 o (lb :: ls):=RL.cons g (s.kp d) y.out.1 (λi j=>(H.out i j).kp d);refine(lF o (lb :: ls) w2 m (by rw[LY,JQ];omega) (by rw[LY,JQ];omega) (by simp;omega)).mono ?_;rintro e K ⟨⟨A,rfl,E⟩,p⟩;go_wp2_with fail;refine(uZ A (lb :: ls).flatten _ E.rd (by rw[LY,JQ];omega)).mono ?_;rintro e J ⟨⟨U,R,rfl,B⟩,F⟩;go_wp2_with fail;go_ret;exact⟨⟨_,_,rfl,by simpa using B.mono (d.trans p).size⟩,(d.trans p).trans F⟩
theorem vE (m v:Value)(k:List UInt8)(ls:List (List UInt8))(w:World)(J:Rd w m k)(h:RL w v ls)(p:k.length<=2000)(X:ls.flatten.length<=1900)(I:ls.length<1000000):
  Calls prog 201 #[m,v] w λe w'=>(∃ a c,e=.returned (.slice a 32 c)/\Ow 5 w' w.heap.size (.slice a 32 c) (et k ls.flatten))/\Kp w w':=by
 have S:=vu;have b:=JE (pj k);have z:Hid (et k ls.flatten=bJ (bK (bX k) 92++bJ (bK (bX k) 54++ls.flatten))):=rfl;have f:=JE (λy:UInt8=>kq (bX k) y);obtain⟨K,r⟩:∃ K,bX k=K:=⟨_,rfl⟩;rw[r] at b z f;have U:=JE jl;have x:=JE (va m k w J p);rw[r] at x;clear r;go_enter func201,ntmps201;go_wp2_with fail;refine x.out.mono ?_;rintro e B ⟨⟨P,rfl,T,_⟩,o⟩;have s:Rd B (.slice (some ⟨P,0,none⟩) 64 64) K:=T.rdAll (by rw[b.out]) (JO _) (by unfold maxLen;omega);go_wp2_with fail;refine(vj _ K 92 _ s (by rw[b.out];omega)).mono ?_;rintro e w2 ⟨⟨O,rfl,R,_⟩,l⟩;have F:Rd w2 (.slice (some ⟨O,0,none⟩) 64 64) (bK K 92):=R.rdAll (by rw[f.out,b.out]) (JO _) (by unfold maxLen;omega);have d:K.length=64:=b.out;rw[d];clear d;go_wp2_with fail;refine(vj _ K 54 _ (s.kp l) (by rw[b.out];omega)).mono ?_;rintro e A ⟨⟨N,rfl,Q,_⟩,j⟩;have E:Rd A (.slice (some ⟨N,0,none⟩) 64 64) (bK K 54):=Q.rdAll (by rw[f.out,b.out]) (JO _) (by unfold maxLen;omega);have d:K.length=64:=b.out;rw[d];clear d;go_wp2_with fail;refine(vC _ _ (bK K 54) ls _ E (((h.kp o).kp l).kp j) (by rw[f.out,b.out];omega) (by rw[f.out,b.out];omega) I).mono ?_;rintro e g ⟨⟨u,t,rfl,D⟩,n⟩;have q:∀ W,Kp g W->W.ownsRow g.heap.size 24 1 (.slice (some ⟨g.heap.size,0,none⟩) 1 1) [Value.slice u 32 t].length [Value.slice u 32 t]->RL W (.slice (some ⟨g.heap.size,0,none⟩) 1 1) [bJ (bK K 54++ls.flatten)]:=λW M H=>
  RL.cons (us:=[]) (ls:=[]) H (D.rd.kp M) rfl (λi L=>by simp at L)
 go_wp2_with fail;refine(vC _ _ (bK K 92) [bJ (bK K 54++ls.flatten)] _ (((F.kp j).kp n).kp ((NQ _).alloc _)) (q _ ((NQ _).alloc _) (oN _ _ _)) (by rw[f.out,b.out];omega) (by rw[f.out,b.out];simp[U.out]) (by simp)).mono ?_;rintro e V ⟨⟨Z,Y,rfl,C⟩,G⟩;go_wp2_with fail;go_ret;exact⟨⟨_,_,rfl,by rw[z.out];simpa using C.mono ((((o.trans l).trans j).trans n).alloc _).size⟩,(((o.trans l).trans j).trans n).trans (((NQ _).alloc _).trans G)⟩
theorem Cf (g v:Value)(k b:List UInt8)(w:World)(o:Rd w g k)(h:Rd w v b)(d:k.length<=2000)(n:b.length<=1900):
  Calls prog 171 #[g,v] w λe w'=>(∃ a c,e=.returned (.slice a 32 c)/\Ow 5 w' w.heap.size (.slice a 32 c) (et k b))/\Kp w w':=by
 have f:∀ W,Kp w W->W.ownsRow w.heap.size 24 1 (.slice (some ⟨w.heap.size,0,none⟩) 1 1) [v].length [v]->RL W (.slice (some ⟨w.heap.size,0,none⟩) 1 1) [b]:=λW q m=>
  RL.cons (us:=[]) (ls:=[]) m (h.kp q) rfl (λi p=>by simp at p)
 obtain⟨y,u,rfl,t,s⟩:=h.shape;go_enter func171,ntmps171;go_wp2_with fail;refine(vE _ _ k [b] _ (o.kp ((NQ _).alloc _)) (f _ ((NQ _).alloc _) (oN _ _ _)) d (by simpa using n) (by simp)).mono ?_;rintro e r ⟨⟨z,x,rfl,j⟩,l⟩;go_wp2_with fail;go_ret;exact⟨⟨_,_,rfl,by simpa using j.mono ((NQ _).alloc _).size⟩,((NQ _).alloc _).trans l⟩
theorem vG (d v:Value)(k:List UInt8)(ls:List (List UInt8))(w:World)(l:Rd w d k)(h:RL w v ls)(b:k.length<=2000)(j:ls.flatten.length<=1900)(i:ls.length<1000000):
  Calls prog 200 #[d,v] w λe w'=>(∃ a c,e=.returned (.slice a 32 c)/\Ow 5 w' w.heap.size (.slice a 32 c) (et k ls.flatten))/\Kp w w':=by
 go_enter func200,ntmps200;go_wp2_with fail;refine(vE _ _ k ls _ l h b j i).mono ?_;rintro e m ⟨⟨o,n,rfl,f⟩,g⟩;go_wp2_with fail;go_ret;exact⟨⟨_,_,rfl,f⟩,g⟩
section
open Go.Shelf
attribute [local go_sem] Oper.semAt_some
def In (p:Nat->Prop)(v:Value):Prop:=∀ b o n c,v=.slice (some ⟨b,o,none⟩) n c->p b
theorem Rd.step (h:Rd A v l)(a:az Y A B)(c:In (λb=>¬Y b) v):Rd B v l:=
 h.held (R:=λb=>¬Y b) ⟨a.size,λk e d=>a.block k e d⟩ c
theorem Rd.heldAll (h:Rd w v l)(f:aR (λj=>j<w.heap.size) w B):Rd B v l:=by
 obtain⟨a,c,rfl,m,k,g,e⟩:=h;exact⟨a,c,rfl,m,k,g,λx b i d=>f.cell (e x b i d) (Kl w _ (e x b i d))⟩
theorem One.heldAll (h:One T w p v)(a:aR (λj=>j<w.heap.size) w B):One T B p v:=h.held a h.lt
theorem RL.lit2 {b a:Value}{c:List UInt8}(g:Rd w b d)(f:Rd w a c):RL (w.alloc (.cells #[b,a] T)) (.slice (some ⟨w.heap.size,0,none⟩) 2 2) [d,c]:=
 RL.cons (us:=[a]) (ls:=[c]) (LJ w #[b,a] 2 (JO _) (by unfold maxLen;omega) rfl) (g.kp ((NQ _).alloc _)) rfl (λi e=>by
  have:i=0:=by simpa using e
  subst this;exact f.kp ((NQ _).alloc _))
theorem RL.lit3 {c b a:Value}{g e:List UInt8}(l:Rd w c g)(k:Rd w b e)(j:Rd w a d):RL (w.alloc (.cells #[c,b,a] T)) (.slice (some ⟨w.heap.size,0,none⟩) 3 3) [g,e,d]:=
 RL.cons (us:=[b,a]) (ls:=[e,d]) (LJ w #[c,b,a] 3 (JO _) (by unfold maxLen;omega) rfl) (l.kp ((NQ _).alloc _)) rfl (λi h=>by
  have f:i<2:=by simpa using h
  match i,f with
  | 0,_=>exact k.kp ((NQ _).alloc _)
  | 1,_=>exact j.kp ((NQ _).alloc _))
theorem Cg (s i:Value)(k info:List UInt8)(w:World)(t:Rd w s k)(m:k.length<=2000)(v:∃ a n c,i=.slice a n c):
  Calls prog 170 #[s,i] w λe w'=>(∃ b,e=.returned (.func (.func 198) #[] #[.pointer (some ⟨w.heap.size,0,none⟩),.pointer (some ⟨w.heap.size+1,0,none⟩)]) /\
   One 24 w' w.heap.size (.slice (some ⟨b,0,none⟩) 64 64)/\One 24 w' (w.heap.size+1) i/\By 5 w' b (bX k))/\Kp w w':=by
 obtain⟨r,j,q,rfl⟩:=v;obtain⟨g,f,rfl,_,_⟩:=t.shape;have z:Hid (One 24 (w.alloc (.cells #[.slice g k.length f] 24)) w.heap.size (.slice g k.length f)):=Oh _ _ _;have y:Hid (One 24 ((w.alloc (.cells #[.slice g k.length f] 24)).alloc (.cells #[.slice r j q] 24)) (w.heap.size+1) (.slice r j q)):=by
  have:=Oh 24 (w.alloc (.cells #[.slice g k.length f] 24)) (.slice r j q);rwa [JY] at this
 go_enter func170,ntmps170;go_wp2_with(go_at_call 197;refine(va _ k _ (t.kp (((NQ w).alloc _).alloc _)) m).mono ?_;rintro e h ⟨⟨b,rfl,u,o⟩,l⟩;have p:=(z.out.kp ((NQ _).alloc _)).kp l;have x:=y.out.kp l;have B:=p.cell;have A:=p.frozen)
 go_ret;rw[JY,JY] at o;have d:az (λk=>k=w.heap.size) h (h.setCell ⟨w.heap.size,0,none⟩ (.slice (some ⟨b,0,none⟩) 64 64)):=(NU _ h).setCell _ _ (.inr rfl);exact⟨⟨b,rfl,p.set _,x.step d (by omega),(d.block b u.lt (by omega)).trans u⟩,Below.setCell (Below.trans (((NQ w).alloc _).alloc _) (l.mono (by simp;omega))) (by simp) _⟩
theorem Ch (b1 b2 gK:Nat)(vi:Value)(k info:List UInt8)(w:World)(h1:One 24 w b1 (.slice (some ⟨gK,0,none⟩) 64 64))(h2:One 24 w b2 vi)(h3:By 5 w gK (bX k))(h4:Rd w vi info)
  (aO:k.length<=2000) (aP:info.length<=1800):
  oL prog 198 #[.pointer (some ⟨b1,0,none⟩),.pointer (some ⟨b2,0,none⟩)] (λi v Y A=>Rd A v (dC k info i)/\In Y v) 255 (λj=>j<w.heap.size) w:=by
 intro l J Jx W hh aN aM hJ an hY h0;have HJ:=JE hJ;have ap:=JE an;have HY:=JE hY;have HK:=JE (pj k);have HP:=JE (vf k info);have HS:Hid (∀ i,et (bX k) (fq k info i++info++be 1 (i+1))=dC k info i):=λi=>by rw[BV,vd]
 have HE:Hid (∀ i,fq k info (i+1)=dC k info i):=λ_=>rfl
 have HB:=JE (λi=>bq 1 (i+1));have hw:=hh.size;obtain⟨ai,ci,rfl,aH,aG⟩:=h4.shape;have HI:Hid (One 24 w b2 (.slice ai info.length ci)/\Rd w (.slice ai info.length ci) info/\One 24 w b1 (.slice (some ⟨gK,0,none⟩) 64 64)/\Rd w (.slice (some ⟨gK,0,none⟩) 64 64) (bX k)):=
  ⟨h2,h4,h1,h3.rdAll (by rw[HK.out]) (JO _) (by unfold maxLen;omega)⟩
 clear hJ an hY h1 h2 h3 h4;refine(callsIn_wide (n:=4)).1 ?_;refine callsIn_of_wp_marks func198 rfl trivial ?_ rfl;refine wpIn_wide.2 ?_;simp only[ntmps198,Lj,Lr,Lk,Ka,Kf,Nat.reduceAdd,Nat.reduceSub,Lg,Lh,Lq,La,Ll];go_wp2_with(go_at_call 199;refine(Cd 1 _).mono ?_;rintro e I ⟨rfl,r⟩)
 have aL:I.heap.size=W.heap.size+3:=by rw[<-r];simp
 have e3:One 187 I W.heap.size (.func (.yield l) #[] #[]):=by rw[<-r];exact((Oh _ _ _).kp ((NQ _).alloc _)).kp ((NQ _).alloc _)
 have e4:One 24 I (W.heap.size+1) (.slice none 0 0):=by
  have:=(Oh 24 (W.alloc (.cells #[.func (.yield l) #[] #[]] 187)) (.slice none 0 0)).kp ((NQ _).alloc (.cells #[.int .i64 ((1:Nat):Int)] 3));rw[JY,r] at this;exact this
 have e5:One 3 I (W.heap.size+1+1) (.int .i64 ((1:Nat):Int)):=by
  have:=Oh 3 ((W.alloc (.cells #[.func (.yield l) #[] #[]] 187)).alloc (.cells #[.slice none 0 0] 24)) (.int .i64 ((1:Nat):Int));rw[JY,JY,r] at this;exact this
 have kW:Kp W I:=by rw[<-r];exact(((NQ W).alloc _).alloc _).alloc _
 clear r;refine tY (R:=λj=>j=W.heap.size+1+1) rfl (enters_of func234 (by kernel_rfl) rfl) (NQ _) (λj q=>by omega) (Ce 1 255 (W.heap.size+1+1) I (by omega) rfl e5.cell) rfl
  (λi Y A=>∃ g,J i g A/\(∀ j,Y j->g j)/\(∀ j,g j->W.heap.size<=j/\j<A.heap.size)/\g W.heap.size/\g (W.heap.size+1)/\g (W.heap.size+1+1)/\One 187 A W.heap.size (.func (.yield l) #[] #[]) /\
   (∃ v,One 24 A (W.heap.size+1) v/\Rd A v (fq k info i)/\In (λb=>g b/\¬Y b) v)/\aR (λj=>j<w.heap.size) w A)
  (λc i Y A=>c=.ret/\∃ g,Jx i g A/\(∀ j,Y j->g j)/\(∀ j,g j->W.heap.size<=j/\j<A.heap.size)/\g W.heap.size)
  ?mI ?mIx ?TT ⟨λj=>W.heap.size<=j/\j<I.heap.size,HJ.out 0 _ _ W I h0 (λ_ h=>h.elim) (NY kW) (λj q=>.inr q),λ_ h=>h.elim,λ_ h=>h,by omega,by omega,by omega,e3,⟨_,e4,cI _,λb o n c e=>by cases e⟩,hh.trans (aR.of_kp kW)⟩
  (λv a' _=>a'={ tmps:=#[.func (.yield l) #[] #[],.pointer (some ⟨b1,0,none⟩),.pointer (some ⟨b2,0,none⟩),.pointer (some ⟨W.heap.size,0,none⟩),.pointer (some ⟨W.heap.size+1,0,none⟩),v,.func (.func 234) #[] #[.pointer (some ⟨W.heap.size+1+1,0,none⟩)],v,undef,undef,undef,undef,undef,undef,undef,undef,undef,undef],defers:=[] })
  (λ_ _ _ _ _ _ h _ _=>h) ?assign ?body ?done ?stop
 case mI=>
  rintro i Y Y' A B ⟨g,q,f,d,t,C,y5,U,⟨v,S,M,hv⟩,P⟩ hY u hg;have aB:=u.size;have hn:∀ j,Y j->W.heap.size+3<=j:=λj h=>by have:=(hY j h).1;omega
  refine⟨λj=>g j\/Y' j,HJ.out i g _ A B q d (u.mono f) (λj h=>h.elim .inl (λh=>(hg j h).imp (f j) id)),λj h=>.inr h,λj h=>?_,.inl t,.inl C,.inl y5,U.step u (λe=>by have:=hn _ e;omega),⟨v,S.step u (λe=>by have:=hn _ e;omega),M.step u (λb o n c e=>(hv b o n c e).2),λb o n c e=>⟨.inl (hv b o n c e).1,λh=>?_⟩⟩,P.trans (aR.of_step u (λj q h=>by have:=hn j h;omega))⟩
  ·rcases h with h|h
   ·have:=d j h;omega
   ·rcases hg j h with h|h
    ·have:=d j (f j h);omega
    ·have:=(d _ t).2;omega
  ·rcases hg b h with h|h
   ·exact(hv b o n c e).2 h
   ·have:=(d b (hv b o n c e).1).2;omega
 case mIx=>
  rintro c i Y Y' A B ⟨hc,g,q,f,d,t⟩ hY u hg;have aB:=u.size;refine⟨hc,λj=>g j\/Y' j,ap.out i g _ A B q d (u.mono f) (λj h=>h.elim .inl (λh=>(hg j h).imp (f j) id)),λj h=>.inr h,λj h=>?_,.inl t⟩;rcases h with h|h
  ·have:=d j h;omega
  ·rcases hg j h with h|h
   ·have:=d j (f j h);omega
   ·have:=(d _ t).2;omega
 case TT=>
  rintro i v Yi Y A A' l' o M _ _ _ hl u;exact M.turn hl rfl u
 case assign=>
  intro l' i Y Yi v A K hI hT hK;gi_wp2
  exact hK _ _ (NQ _) rfl
 case body=>
  rintro l' i Y v a' A hi ⟨g,q,f,d,t,C,y5,U,⟨vb,S,M,ae⟩,P⟩ aa aQ hT rfl;obtain⟨i1,i2,i3,i4⟩:=HI.out;obtain⟨av,cv,rfl,_,_⟩:=hT.shape;obtain⟨ab,cb,rfl,_,_⟩:=M.shape;obtain⟨nv,ag⟩:∃ nv,(be 1 (i+1)).length=nv:=⟨_,rfl⟩;obtain⟨nb,ah⟩:∃ nb,(fq k info i).length=nb:=⟨_,rfl⟩;rw[ag] at hT ⊢;rw[ah] at M S ae;clear ag ah;have p1:=(i3.heldAll P).cell;have p2:=(i1.heldAll P).cell;have p3:=U.cell;have p4:=S.cell;have f4:=S.frozen;have Z:([fq k info i,info,be 1 (i+1)]:List (List UInt8)).flatten=fq k info i++info++be 1 (i+1):=by simp
  have al:=HS.out i;have q0:=HP.out i;have q3:=HB.out i;have N:([fq k info i,info,be 1 (i+1)]:List (List UInt8)).flatten.length<=1900:=by rw[Z,JQ,JQ,q3];omega
  have x:=JE (λT=>vG (.slice (some ⟨gK,0,none⟩) 64 64) (.slice (some ⟨A.heap.size,0,none⟩) 3 3) (bX k) [fq k info i,info,be 1 (i+1)] (A.alloc (.cells #[.slice ab nb cb,.slice ai info.length ci,.slice av nv cv] T)) ((i4.heldAll P).kp ((NQ _).alloc _)) (RL.lit3 M (i2.heldAll P) hT) (by rw[HK.out];omega) N (by simp));rw[Z,al] at x;have Q:∀ (T:TypeId) (p:World) (a c:_),Ow 5 p (A.heap.size+1) (.slice a 32 c) (dC k info i)->Kp (A.alloc (.cells #[.slice ab nb cb,.slice ai info.length ci,.slice av nv cv] T)) p->∀ m,∃ H:Nat->Prop,(∀ j,g j->H j)/\(∀ j,H j->W.heap.size<=j/\j<p.heap.size)/\In (λb=>H b/\¬Y b) (.slice a 32 c)/\Rd (p.setCell ⟨W.heap.size+1,0,none⟩ (.slice a 32 c)) (.slice a 32 c) (dC k info i) /\
    az g A (p.setCell ⟨W.heap.size+1,0,none⟩ (.slice a 32 c)) /\
    YieldAt Fence.wide m prog l #[.slice a 32 c] (p.setCell ⟨W.heap.size+1,0,none⟩ (.slice a 32 c)) λe B=>aR (λj=>H j\/j<w.heap.size) (p.setCell ⟨W.heap.size+1,0,none⟩ (.slice a 32 c)) B/\((e=.returned (.bool true)/\J (i+1) H B)\/(e=.returned (.bool false)/\Jx i H B)):=by
   intro T p a c L kp m;have X:Kp A p:=((NQ A).alloc _).trans kp;have ax:=kp.size;rw[JY] at ax;have V:az g A (p.setCell ⟨W.heap.size+1,0,none⟩ (.slice a 32 c)):=(NY X).setCell _ _ (.inr C);have aj:In (λb=>(g b\/(A.heap.size<=b/\b<p.heap.size))/\¬Y b) (.slice a 32 c):=λb o n c' e=>by
    have e2:(Value.slice a 32 c).ownBlock=some b:=by rw[e];rfl
    have h1:=L.own_ge b e2;have h2:=L.lt b e2;exact⟨.inr (by omega),λh=>by have:=(d b (f b h)).2;omega⟩
   have af:Rd (p.setCell ⟨W.heap.size+1,0,none⟩ (.slice a 32 c)) (.slice a 32 c) (dC k info i):=
    L.rd.step (Y:=λb=>b=W.heap.size+1) ((NU _ _).setCell _ _ (.inr rfl)) (λb o n c' e h=>by
     have e2:(Value.slice a 32 c).ownBlock=some b:=by rw[e];rfl
     have h1:=L.own_ge b e2;have h2:=(d _ C).2;omega)
   have ak:∀ j,(g j\/(A.heap.size<=j/\j<p.heap.size))->W.heap.size<=j/\j<p.heap.size:=λj h=>by
    have:=(d _ C).2;rcases h with h|h
    ·have:=d j h;omega
    ·omega
   refine⟨λj=>g j\/(A.heap.size<=j/\j<p.heap.size),λj h=>.inl h,ak,aj,af,V,?_⟩;refine HY.out i _ _ _ m hi (HJ.out i g _ A _ q d V (λj h=>h.imp id (λh=>by simpa using h))) (λj h=>by simpa using ak j h) (P.trans (aR.of_step V (λj q h=>by have:=d j h;omega))) ⟨af,λb o n c' e=>(aj b o n c' e).1⟩
  have ao:=JE Q;clear al q0 q3 Z N hT Q;gi_wp2_with (refine⟨trivial,?_⟩;gi_at_call 200;refine(CallsIn.inRound l' (callsIn_wide.2 (x.out _))).mono ?_;rintro e p ⟨⟨a3,c3,rfl,L⟩,k3⟩;rw[JY] at L;have d4:=((S.kp ((NQ A).alloc _)).kp k3);have d3:=((U.kp ((NQ A).alloc _)).kp k3).cell;have aF:=d4.cell;have aE:=d4.frozen;obtain⟨H,s,g2,g3,g4,g5,fn,tmps,assign,body,hy,G⟩:=ao.out _ p a3 c3 L k3 3)
  have ay:=k3.size;rw[JY] at ay;have aK:=(d _ C).2;have X:Kp A p:=((NQ A).alloc _).trans k3;obtain⟨W4,E⟩:∃ W4,p.setCell ⟨W.heap.size+1,0,none⟩ (.slice a3 32 c3)=W4:=⟨_,rfl⟩;have ar:One 24 W4 (W.heap.size+1) (.slice a3 32 c3):=by rw[<-E];exact d4.set _
  have y:∀ j,j<A.heap.size->j≠W.heap.size+1->W4.heap[j]?=A.heap[j]?:=λj h1 h2=>by
   rw[<-E];exact(Below.heap_setCell p _ _ j (by simpa using h2)).trans (X.block j h1)
  have au:One 187 W4 W.heap.size (.func (.yield l) #[] #[]):=(y _ U.lt (by omega)).trans U;have aJ:W4.heap.size=p.heap.size:=by rw[<-E];simp
  rw[E] at G g4 g5 ⊢;have am:∀ j,Y j->W.heap.size+3<=j:=λj h=>by have:=(aa j h).1;omega
  have aT:=HE.out i;clear aF aE p1 p2 p3 p4 f4 hy d3 d4 x ao M ae S U L;refine RoundIn.mono (F:=Fence.wide.inRound l') G ?_;rintro e B ⟨z,(⟨rfl,aD⟩|⟨rfl,aA⟩)⟩
  ·have aw:=z.size
   have O:aR (λj=>Y j\/j=W.heap.size+1+1) A B:=⟨by omega,λj q h=>(z.block j (by omega) (.inl (h.elim (λh=>s j (f j h)) (λh=>s j (h▸y5))))).trans (y j q (h.elim (λh=>by have:=am j h;omega) (λh=>by omega)))⟩;have aS:aR (λj=>j<w.heap.size) w B:=(P.trans (aR.of_step g5 (λj q h=>by have:=d j h;omega))).trans (z.mono (λj h=>.inr h));have aq:=ar.held z (.inl (s _ C));have aI:=au.held z (.inl (s _ t));have aC:Rd B (.slice a3 32 c3) (dC k info i):=g4.held z (λb o n c e=>.inl (g3 b o n c e).1);clear z g4 g5 y G;gi_wp2
   exact .inl ⟨H,aD,λj h=>s j (f j h),λj h=>by have:=g2 j h;omega,s _ t,s _ C,s _ y5,_,aq,aC,g3⟩
  ·have aw:=z.size
   have O:aR (λj=>Y j\/j=W.heap.size+1+1) A B:=⟨by omega,λj q h=>(z.block j (by omega) (.inl (h.elim (λh=>s j (f j h)) (λh=>s j (h▸y5))))).trans (y j q (h.elim (λh=>by have:=am j h;omega) (λh=>by omega)))⟩;clear z g4 g5 y G;gi_wp2
   exact⟨O,.inr ⟨_,rfl,rfl,H,aA,λj h=>s j (f j h),λj h=>by have:=g2 j h;omega,s _ t⟩⟩
 case done=>
  rintro D Y W2 hD ad aa ⟨g,q,f,d,t,C,y5,_⟩ hd;go_wp2;refine⟨by simp,.inl ⟨_,_,rfl,run_takeDeferred hd,?_⟩⟩;refine⟨_,results_none rfl _ _ _,⟨_,rfl⟩,g,λj h=>by have:=d j h;rw[mE];omega,.inl (HJ.out _ g g W2 _ q d ((NU _ _).putObj _ _ (.inr (f _ ad))) (λ_ h=>.inl h))⟩
 case stop=>
  rintro D c i Y W2 hD ad aa hi ⟨rfl,g,hx,f,d,t⟩ hd;go_wp2;refine⟨by simp,.inl ⟨_,_,rfl,run_takeDeferred hd,?_⟩⟩;refine⟨_,results_none rfl _ _ _,⟨_,rfl⟩,g,λj h=>by have:=d j h;rw[mE];omega,.inr ⟨i,hi,ap.out _ g g W2 _ hx d ((NU _ _).putObj _ _ (.inr (f _ ad))) (λ_ h=>.inl h)⟩⟩
end
theorem Ev (l:List UInt8)(k:Nat):l++List.replicate k 0++[0]=l++List.replicate (k+1) 0:=by
 rw[LQ,Nc]
theorem Ew (v:Value)(l:List UInt8)(w:World)(h:Rd w v l)(S:l.length<=2000):
  Calls prog 184 #[v] w λe w'=>(∃ C,e=.returned C/\Ow 5 w' w.heap.size C (bX l))/\Kp w w':=by
 have U:=aj;obtain⟨a,c,rfl,h1,V⟩:=h.shape;unfold maxLen at V;have N:=JE Ev;by_cases y:64<l.length
 ·have z:bX l=bJ l++List.replicate 32 0:=by unfold bX iP;rw[if_pos y,jl]
  rw[z];have L:=jl l;have x:64<(l.length:Int):=by omega
  obtain⟨D,M⟩:∃ D,bJ l=D:=⟨_,rfl⟩;obtain⟨R,m⟩:∃ R:Nat,R=32:=⟨_,rfl⟩;have O:=JE (jN (.slice a l.length c) l);rw[M] at L O ⊢;rw[show List.replicate 32 (0:UInt8)=List.replicate R 0 from by rw[m]];have B:Hid (D.length+R=64):=by show _=_;omega
  clear z M L m;go_enter func184,ntmps184;go_wp2_with(at_builtin;refine bw U rfl _ _ rfl w.heap.size _ _ rfl (NT w 5 w.heap.size 0 #[] [] (JO _) rfl (by decide) rfl) _ l rfl (h.kp ((NQ w).alloc _)) ?d1 ?d2 ?_;rotate_right;intro F w2 E A _;have p:Kp w w2:=NS ((NQ w).alloc _) A (by intro k e;cases e;exact JO _);clear A)
  case d1=>simp;omega
  case d2=>simp
  refine(O.out _ (h.kp p) S).mono ?_;rintro e P ⟨⟨Q,rfl,s⟩,K⟩;have t:=s.mono p.size;have u:=p.trans K;clear s E p K;go_wp2_with fail;have g:Ow 5 P w.heap.size Q (D++List.replicate 0 0):=by simpa using t
  clear t;go_loopw[3] (λv wr=>∃ k:Nat,k<=R/\Ow 5 wr w.heap.size v (D++List.replicate k 0)/\Kp w wr) (λv _=>match v with|.slice _ n _=>64 - n|_=>0)
  case atStart=>exact⟨0,by omega,g,u⟩
  case round=>
   clear g u;obtain⟨k,T,j,d⟩:=hrel;have H:=d.size;obtain⟨Z,W,rfl,p1,p2⟩:=j.rd.shape;have b:(D++List.replicate k 0).length=D.length+k:=by rw[JQ];simp
   rw[b] at p1 ⊢;rw[b] at j;unfold maxLen at p2;by_cases I:k<R
   ·have r:=JE (N.out D k)
    generalize D++List.replicate k 0=X at *;have o:=JE b;clear b;have f:=B.out;have q:(D.length:Int)+(k:Int)<64:=by omega
    have G:D.length+k<64:=by omega
    clear f;go_wp2_with(at_builtin;refine bw U rfl _ _ rfl w.heap.size _ _ rfl (j.kp ((NQ _).alloc _)) _ [0] rfl (NT _ 5 0 1 _ _ (JW _) rfl (by decide) rfl).rd ?c1 ?c2 ?_;rotate_right;intro C w2 i J _)
    case c1=>rw[o.out];simp;omega
    case c2=>simp;omega
    go_roundw
    case rel=>exact⟨k+1,by omega,by rw[<-r.out];exact i,NS (d.alloc _) J j.own_ge⟩
    case measure=>
     obtain⟨a5,Y,rfl,_⟩:=i.rd.shape;rw[JQ,o.out];simp;omega
   ·obtain rfl:k=R:=by omega
    have f:=B.out;have q:¬(D.length:Int)+(k:Int)<64:=by omega
    have G:¬D.length+k<64:=by omega
    clear f b;go_wp2_with fail;go_ret;exact⟨⟨_,rfl,j⟩,d⟩
 ·have z:bX l=l++List.replicate (64 - l.length) 0:=by unfold bX iP;rw[if_neg y]
  rw[z];have x:¬64<(l.length:Int):=by omega
  obtain⟨R,m⟩:∃ R:Nat,R=64 - l.length:=⟨_,rfl⟩;rw[<-m];have B:Hid (l.length+R=64):=by show _=_;omega
  clear z m;go_enter func184,ntmps184;go_wp2_with(at_builtin;refine bw U rfl _ _ rfl w.heap.size _ _ rfl (NT w 5 w.heap.size 0 #[] [] (JO _) rfl (by decide) rfl) _ l rfl (h.kp ((NQ w).alloc _)) ?d3 ?d4 ?_;rotate_right;intro F w2 E A _;have p:Kp w w2:=NS ((NQ w).alloc _) A (by intro k e;cases e;exact JO _);clear A)
  case d3=>omega
  have t:Ow 5 w2 w.heap.size F l:=by simpa using E
  have u:=p;clear E p;have g:Ow 5 w2 w.heap.size F (l++List.replicate 0 0):=by simpa using t
  clear t;go_loopw[3] (λv wr=>∃ k:Nat,k<=R/\Ow 5 wr w.heap.size v (l++List.replicate k 0)/\Kp w wr) (λv _=>match v with|.slice _ n _=>64 - n|_=>0)
  case atStart=>exact⟨0,by omega,g,u⟩
  case round=>
   clear g u;obtain⟨k,T,j,d⟩:=hrel;have H:=d.size;obtain⟨Z,W,rfl,p1,p2⟩:=j.rd.shape;have b:(l++List.replicate k 0).length=l.length+k:=by rw[JQ];simp
   rw[b] at p1 ⊢;rw[b] at j;unfold maxLen at p2;by_cases I:k<R
   ·have r:=JE (N.out l k)
    generalize l++List.replicate k 0=X at *;have o:=JE b;clear b;have f:=B.out;have q:(l.length:Int)+(k:Int)<64:=by omega
    have G:l.length+k<64:=by omega
    clear f;go_wp2_with(at_builtin;refine bw U rfl _ _ rfl w.heap.size _ _ rfl (j.kp ((NQ _).alloc _)) _ [0] rfl (NT _ 5 0 1 _ _ (JW _) rfl (by decide) rfl).rd ?c3 ?c4 ?_;rotate_right;intro C w2 i J _)
    case c3=>rw[o.out];simp;omega
    case c4=>simp;omega
    go_roundw
    case rel=>exact⟨k+1,by omega,by rw[<-r.out];exact i,NS (d.alloc _) J j.own_ge⟩
    case measure=>
     obtain⟨a5,Y,rfl,_⟩:=i.rd.shape;rw[JQ,o.out];simp;omega
   ·obtain rfl:k=R:=by omega
    have f:=B.out;have q:¬(l.length:Int)+(k:Int)<64:=by omega
    have G:¬l.length+k<64:=by omega
    clear f b;go_wp2_with fail;go_ret;exact⟨⟨_,rfl,j⟩,d⟩
theorem xE (v:Value)(l:List UInt8)(y:UInt8)(w:World)(h:Rd w v l)(G:l.length<=1000000):
  Calls prog 186 #[v,.int .u8 (y.toNat:Int)] w λe w'=>(∃ n,e=.returned n/\Ow 5 w' w.heap.size n (bK l y))/\Kp w w':=by
 have U:=aj;obtain⟨a,c,rfl,H,E⟩:=h.shape;unfold maxLen at E;have r:∀ k,k<l.length->bK (l.take (k+1)) y=bK (l.take k) y++[l.getD k 0 ^^^ y]:=λk s=>by rw[mn l k s,Bz];rfl
 have F:=JE r;clear r;go_enter func186,ntmps186;go_wp2_with fail;go_loopw[5,6] (λv i wr=>∃ k:Nat,k<=l.length/\i=.int .i64 k/\Ow 5 wr w.heap.size v (bK (l.take k) y)/\Kp w wr) (λ_ i _=>l.length - (intOf i).toNat)
 case atStart=>exact⟨0,by omega,rfl,NR _ _ _,NQ _⟩
 case round=>
  obtain⟨k,s,rfl,m,f⟩:=hrel;have B:=f.size;by_cases j:k<l.length
  ·obtain⟨b,t,rfl,_,d⟩:=h.at k j
   have D:=f.cell (d k j);have A:=rC (l.getD k 0) y;have g:(bK (l.take k) y).length=k:=by rw[kq];simp;omega
   have p:=JE (F.out k j);generalize l.getD k 0=x at *;generalize u:x ^^^ y=z at *;generalize bK (l.take k) y=L at *;have q:=JE g;clear g d u;go_wp2_with(at_builtin;refine bw U rfl _ _ rfl w.heap.size _ _ rfl (m.kp ((NQ _).alloc _)) _ [z] rfl (NT _ 5 0 1 _ _ (JW _) rfl (by decide) rfl).rd ?c1 ?c2 ?_;rotate_right;intro n w2 o C _)
   case c1=>rw[q.out];simp;omega
   case c2=>simp;omega
   go_roundw
   case rel=>exact⟨k+1,by omega,by go_num,by rw[p.out];exact o,NS (f.alloc _) C m.own_ge⟩
   case measure=>simp[intOf];omega
  ·obtain rfl:k=l.length:=by omega
   rw[Kz] at m;go_wp2_with fail;go_ret;exact⟨⟨_,rfl,m⟩,f⟩
theorem sJ (d v:Value)(k b:List UInt8)(w:World)(L:Rd w d k)(h:Rd w v b)(m:k.length<=2000)(Y:b.length<=1900):
  Calls prog 151 #[d,v] w λe w'=>(∃ p,e=.returned p/\Ow 5 w' w.heap.size p (et k b))/\Kp w w':=by
 have U:=aj;obtain⟨av,Z,rfl,X,W⟩:=h.shape;have B:Hid (et k b=bJ (bK (bX k) 92++bJ (bK (bX k) 54++b))):=rfl;have a:=JE (pj k);have c:=JE (λy:UInt8=>kq (bX k) y);obtain⟨K,u⟩:∃ K,bX k=K:=⟨_,rfl⟩;have A:=JE (Ew d k w L m);rw[u] at a B c A;have C:=JE jl;clear u;go_enter func151,ntmps151;go_wp2_with fail;refine A.out.mono ?_;rintro e o ⟨⟨V,rfl,s⟩,l⟩;go_wp2_with fail;refine(xE _ K 54 _ s.rd (by rw[a.out];omega)).mono ?_;rintro e w2 ⟨⟨T,rfl,r⟩,j⟩;go_wp2_with(at_builtin;refine bw U rfl _ _ rfl o.heap.size _ _ rfl r _ b rfl ((h.kp l).kp j) ?c1 j.size ?_;rotate_right;intro S E I z _;have i:Kp o E:=NS j z r.own_ge;clear z)
 case c1=>rw[c.out,a.out];omega
 refine(jN _ _ _ I.rd (by rw[JQ,c.out,a.out];omega)).mono ?_;rintro e n ⟨⟨R,rfl,H⟩,g⟩;go_wp2_with fail;refine(xE _ K 92 _ (s.rd.kp (i.trans g)) (by rw[a.out];omega)).mono ?_;rintro e N ⟨⟨Q,rfl,q⟩,f⟩;go_wp2_with(at_builtin;refine bw U rfl _ _ rfl n.heap.size _ _ rfl q _ (bJ (bK K 54++b)) rfl (H.rd.kp f) ?c2 f.size ?_;rotate_right;intro P D G x _;have t:Kp n D:=NS f x q.own_ge;clear x)
 case c2=>rw[c.out,a.out,C.out];omega
 refine(jN _ _ _ G.rd (by rw[JQ,c.out,a.out,C.out];omega)).mono ?_;rintro e M ⟨⟨O,rfl,F⟩,J⟩;go_wp2_with fail;go_ret;exact⟨⟨_,rfl,by rw[B.out];exact F.mono (((l.trans i).trans g).trans t).size⟩,(((l.trans i).trans g).trans t).trans J⟩
theorem Ex (z v:Value)(k:List UInt8)(ls:List (List UInt8))(w:World)(I:Rd w z k)(h:RL w v ls)(u:k.length<=2000)(H:ls.flatten.length<=1900)(O:ls.length<1000000):
  Calls prog 190 #[z,v] w λe w'=>(∃ q,e=.returned q/\Ow 5 w' w.heap.size q (et k ls.flatten))/\Kp w w':=by
 have U:=aj;obtain⟨a,c,rfl,Q,J⟩:=h.shape;unfold maxLen at J;have D:=JE (vq ls);have K:=JE (vr ls);have l:(ls.take ls.length).flatten=ls.flatten:=by rw[Kz]
 have L:=JE l;clear l;go_enter func190,ntmps190;go_wp2_with fail;go_loopw[5,6] (λv i wr=>∃ k:Nat,k<=ls.length/\i=.int .i64 k/\Ow 5 wr w.heap.size v (ls.take k).flatten/\Kp w wr) (λ_ i _=>ls.length - (intOf i).toNat)
 case atStart=>exact⟨0,by omega,rfl,NR _ _ _,NQ _⟩
 case round=>
  obtain⟨j,P,rfl,p,d⟩:=hrel;have r:=d.size;by_cases g:j<ls.length
  ·obtain⟨b,E,rfl,_,f⟩:=h.at j g
   obtain⟨aa,o,n⟩:=f j g;have C:=d.cell o;have m:=n.kp d;have A:=congrArg List.length (D.out j g);rw[JQ] at A;have t:=K.out (j+1);have B:(List.take j ls).flatten.length+(ls.getD j []).length<=1900:=by omega
   have y:=JE (D.out j g);generalize ls.getD j []=X at *;generalize (ls.take j).flatten=Y at *;clear f n A o t;go_wp2_with(at_builtin;refine bw U rfl _ _ rfl w.heap.size _ _ rfl p _ X rfl m ?c1 r ?_;rotate_right;intro q w2 s x _)
   case c1=>omega
   go_roundw
   case rel=>exact⟨j+1,by omega,by go_num,by rw[y.out];exact s,NS d x p.own_ge⟩
   case measure=>simp[intOf];omega
  ·obtain rfl:j=ls.length:=by omega
   rw[L.out] at p;go_wp2_with fail;refine(sJ _ _ k ls.flatten _ (I.kp d) p.rd u H).mono ?_;rintro e M ⟨⟨N,rfl,F⟩,G⟩;go_wp2_with fail;go_ret;exact⟨⟨_,rfl,F.mono d.size⟩,d.trans G⟩

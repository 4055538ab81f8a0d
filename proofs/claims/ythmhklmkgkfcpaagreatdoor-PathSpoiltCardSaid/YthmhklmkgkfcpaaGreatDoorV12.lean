import Derived.Test.YthmhklmkgkfcpaaGreatDoorV8
import Derived.Test.YthmhklmkgkfcpaaGreatDoorV11
import Derived.Deep.Fields
set_option linter.all false
set_option maxHeartbeats 8000000
set_option maxRecDepth 100000
namespace Go.Proofs.YthmhklmkgkfcpaaGreatDoor
open Go.Proofs.Tryz Go.RowKit
variable {T e t:TypeId}{a c v:Value}{b:Nat}{cs:Array Value}{f l lb:List UInt8}{w w':World}
def Bx (w:World)(b:Nat)(T:TypeId)(cs:Array Value):Prop:=w.heap[b]?=some (.cells cs T (0,0))
theorem Bx.kp (h:Bx w b T cs)(k:Kp w w'):Bx w' b T cs:=
 (Below.block k b (Iz.1 h).1).trans h
theorem Bx.cell (h:Bx w b T cs)(j:Nat):w.cell? ⟨b,j,none⟩=cs[j]?:=cell_of_row w b j cs T (0,0) h
theorem Bx.frozen (h:Bx w b T cs)(j:Nat):w.frozen? ⟨b,j,none⟩=false:=frozen_of_row w b j cs T h
theorem Bx.new (w:World)(T:TypeId)(cs:Array Value):Bx (w.alloc (.cells cs T)) w.heap.size T cs:=heap_alloc_new w _
theorem Bx.set (h:Bx w b T cs)(j:Nat)(v:Value):Bx (w.setCell ⟨b,j,none⟩ v) b T (cs.setIfInBounds j v):=heap_setCell_same w b j cs T v h
theorem Kp.setNew (h:Kp w w'){j:Nat}(a:w.heap.size<=b)(v:Value):Kp w (w'.setCell ⟨b,j,none⟩ v):=Below.setCell h a v
theorem aA (h:Rd w v l):∃ a n c,v=.slice a n c:=by
 obtain⟨a,c,e,_⟩:=h.shape;exact⟨_,_,_,e⟩
theorem Bx.setCells {b:Nat}{T:TypeId}:∀ (vs:List Value) (o:Nat) (w:World) (cs:Array Value),Bx w b T cs->o+vs.length<=cs.size ->
  ∃ cs':Array Value,Bx (w.setCells b o vs) b T cs'/\cs'.size=cs.size/\∀ k,cs'[k]?=if o<=k/\k<o+vs.length then vs[k - o]? else cs[k]?
 | [],o,w,cs,h,_=>⟨cs,h,rfl,λk=>by rw[if_neg (by simp only[Jq];omega)]⟩
 | v :: vs,o,w,cs,h,hl=>by
  simp only[Jf] at hl
  obtain⟨cs',h2,h3,h4⟩:=Bx.setCells vs (o+1) (w.setCell ⟨b,o,none⟩ v) (cs.setIfInBounds o v) (h.set o v) (by rw[LQ];omega)
  refine⟨cs',h2,by rw[h3,LQ],λk=>?_⟩
  rw[h4 k]
  simp only[Jf]
  by_cases h5:o+1<=k/\k<o+1+vs.length
  ·rw[if_pos h5,if_pos ⟨by omega,by omega⟩,show k - o=(k - (o+1))+1 by omega,IK]
  ·rw[if_neg h5,Array.getElem?_setIfInBounds]
   by_cases h6:o=k
   ·subst h6
    rw[if_pos rfl,if_pos (by omega),if_pos ⟨by omega,by omega⟩,Lb]
    rfl
   ·rw[if_neg h6,if_neg (by omega)]
theorem Bx.fill (h:Bx w b T cs)(vs:Array Value)(f:vs.size=cs.size):Bx (w.setCells b 0 vs.toList) b T vs:=by
 obtain⟨a,d,g,c⟩:=Bx.setCells vs.toList 0 w cs h (by rw[LK];omega);have e:a=vs:=by
  refine Array.ext_getElem? λk=>?_
  rw[c k,LK];split
  ·rw[Mr,Mb]
  ·next hk=>rw[LY (by omega),LY (by omega)]
 exact e▸d
theorem Bx.there (h:Bx w b T cs):w.there b 0 cs.size:=λj a=>by
 rw[JA,h.cell j];exact⟨by simp[a],h.frozen j⟩
theorem Kp.setCells (h:Kp w w')(a:w.heap.size<=b):∀ (vs:List Value) (o:Nat),Kp w (w'.setCells b o vs):=by
 intro vs
 induction vs generalizing w' with
 | nil=>intro o;exact h
 | cons v vs ih=>intro o;exact ih (h.setNew a v) (o+1)
def TL (l:List UInt8)(at':Int)(w:World)(e:Ending)(w':World):Prop:=
 e=.returned (.tuple #[.int .i64 (tlN l at'),.int .i64 (tlP l at'),.int .i64 (tlE l at')])/\Kp w w'
theorem ul (n:Int)(w:World):
  Calls prog 150 #[.int .i64 n] w λe w'=>∃ v,e=.returned (.tuple #[v,.int .i64 (et n)])/\Ow 5 w' w.heap.size v (dm n)/\Kp w w':=by
 by_cases d:n<0
 ·have l:decide (n<0)=true:=by simp[d]
  have a:et n=1:=if_pos (.inl d);have b:dm n=[]:=by simp[dm,a]
  rw[a,b];clear a b;go_enter func150,ntmps150;go_wp2_with fail;go_ret2;exact⟨_,rfl,Ow.nil _ _ _,Kp.refl _⟩
 ·have l:decide (n<0)=false:=by simp[d]
  by_cases c:1073741823<n
  ·have k:decide (1073741823<n)=true:=by simp[c]
   have a:et n=1:=if_pos (.inr c);have b:dm n=[]:=by simp[dm,a]
   rw[a,b];clear a b;go_enter func150,ntmps150;go_wp2_with fail;go_ret2;exact⟨_,rfl,Ow.nil _ _ _,Kp.refl _⟩
  ·have k:decide (1073741823<n)=false:=by simp[c]
   obtain⟨n,rfl⟩:=IR (show 0<=n by omega);have a:et n=0:=if_neg (by omega);have b:dm n=cm n:=by simp[dm,a]
   rw[a,b];clear a b;by_cases h:n<64
   ·have f:=Lib.hid (show cm n=be 1 n by simp[cm,h])
    go_enter func150,ntmps150;go_wp2_with fail;go_ret2;rw[f.out];exact⟨_,rfl,Ow.lit w _ _ _ _ _ (IB _) rfl (by omega) (by simp[Lib.byteCells,be];omega),(Kp.refl _).alloc _⟩
   ·by_cases i:n<16384
    ·have f:=Lib.hid (show cm n=be 2 (n+16384) by simp[cm,h,i])
     go_enter func150,ntmps150;go_wp2_with fail;go_ret2;rw[f.out];refine⟨_,rfl,Ow.lit w _ _ _ _ _ (IB _) rfl (by omega) ?_,(Kp.refl _).alloc _⟩;simp[Lib.byteCells,be];omega
    ·have f:=Lib.hid (show cm n=be 4 (n+2147483648) by simp[cm,h,i])
     have m:=Lib.hid (iZ (n:=(2147483648+n:Int)) (w:=4) ⟨by omega,by omega,by omega,by rw[show(256:Int) ^ (4:Int).toNat=4294967296 from by decide];omega⟩);go_enter func150,ntmps150;go_wp2_with(go_at_call 62;refine(uk _ _ _ (by omega)).mono ?_;rintro e w' ⟨v,rfl,g,j⟩;obtain⟨d,c⟩:=m.out;rw[d];rw[c] at g;clear d c)
     go_ret2;rw[f.out];refine⟨_,rfl,?_,j⟩;rw[show(2147483648+(n:Int)).toNat=n+2147483648 from by omega] at g;exact g
theorem kH (n:Nat):(cm n).length<=4:=by
 unfold cm;split
 ·rw[bT];omega
 ·split <;> (rw[bT];omega)
theorem qK (v:Value)(l:List UInt8)(w:World)(h:Rd w v l):
  Calls prog 166 #[v] w λe w'=>∃ u,e=.returned (.tuple #[u,.int .i64 (gR l)])/\Ow 5 w' w.heap.size u (aO l)/\Kp w w':=by
 have U:=ag;obtain⟨a,c,rfl,s,r⟩:=h.shape;by_cases t:1073741823<l.length
 ·have b:et l.length=1:=if_pos (.inr (by omega))
  have d:gR l=1:=b;have g:aO l=[]:=by simp[aO,d]
  rw[d,g];have k:=Lib.hid b;clear b d g;go_enter func166,ntmps166;go_wp2_with(go_at_call 167;refine(qJ _ _).mono ?_;rintro e n ⟨u,rfl,i,f⟩;rw[k.out])
  go_ret2;exact⟨_,rfl,Ow.nil _ _ _,f⟩
 ·have b:et l.length=0:=if_neg (by omega)
  have d:gR l=0:=b;have g:aO l=cm l.length++l:=by simp[aO,d]
  have m:dm l.length=cm l.length:=by simp[dm,b]
  rw[d,g];have k:=Lib.hid b;have p:=Lib.hid m;clear b d g m;go_enter func166,ntmps166;go_wp2_with(first
   | (go_at_call 167;refine(qJ _ _).mono ?_;rintro e n ⟨u,rfl,i,f⟩;rw[k.out];rw[p.out] at i)
   | (at_builtin;refine cj U rfl _ _ rfl w.heap.size _ _ rfl i _ l rfl (h.kp f) ?c1 f.size ?_;rotate_right;intro q w2 j o _))
  case c1=>have:=kH l.length;omega
  go_ret2;exact⟨_,rfl,j,Kp.grown f o i.own_ge⟩
theorem uo (v:Value)(l:List UInt8)(w:World)(h:Rd w v l):
  Calls prog 111 #[v] w λe w'=>∃ u,e=.returned (.tuple #[u,.int .i64 (gR l)])/\Ow 5 w' w.heap.size u (aO l)/\Kp w w':=by
 have U:=ag;obtain⟨a,c,rfl,s,r⟩:=h.shape;by_cases t:1073741823<l.length
 ·have b:et l.length=1:=if_pos (.inr (by omega))
  have d:gR l=1:=b;have g:aO l=[]:=by simp[aO,d]
  rw[d,g];have k:=Lib.hid b;clear b d g;go_enter func111,ntmps111;go_wp2_with(go_at_call 150;refine(ul _ _).mono ?_;rintro e n ⟨u,rfl,i,f⟩;rw[k.out])
  go_ret2;exact⟨_,rfl,Ow.nil _ _ _,f⟩
 ·have b:et l.length=0:=if_neg (by omega)
  have d:gR l=0:=b;have g:aO l=cm l.length++l:=by simp[aO,d]
  have m:dm l.length=cm l.length:=by simp[dm,b]
  rw[d,g];have k:=Lib.hid b;have p:=Lib.hid m;clear b d g m;go_enter func111,ntmps111;go_wp2_with(first
   | (go_at_call 150;refine(ul _ _).mono ?_;rintro e n ⟨u,rfl,i,f⟩;rw[k.out];rw[p.out] at i)
   | (at_builtin;refine cj U rfl _ _ rfl w.heap.size _ _ rfl i _ l rfl (h.kp f) ?c1 f.size ?_;rotate_right;intro q w2 j o _))
  case c1=>have:=kH l.length;omega
  go_ret2;exact⟨_,rfl,j,Kp.grown f o i.own_ge⟩
theorem rY {n:Int}(h:0<=n/\n<=65535):eP n 2=be 2 n.toNat:=by
 unfold eP;rw[if_pos]
 ·rfl
 ·unfold eH
  refine⟨by omega,by omega,by omega,?_⟩;show n<65536
  omega
theorem RL.row2 (w:World)(e:TypeId){b:Value}{c:List UInt8}(g:Rd w a c)(f:Rd w b lb):RL (w.alloc (.cells #[a,b] e)) (.slice (some ⟨w.heap.size,0,none⟩) 2 2) [c,lb]:=
 RL.cons (us:=[b]) (ls:=[lb]) (JW w #[a,b] 2 (IB _) (by unfold maxLen;omega) rfl) (g.kp ((Kp.refl _).alloc _)) rfl (λi d=>by
  match i,d with
  | 0,_=>exact f.kp ((Kp.refl _).alloc _))
theorem RL.row3 (w:World)(e:TypeId){b:Value}{d:List UInt8}(k:Rd w a f)(j:Rd w b lb)(h:Rd w c d):RL (w.alloc (.cells #[a,b,c] e)) (.slice (some ⟨w.heap.size,0,none⟩) 3 3) [f,lb,d]:=
 RL.cons (us:=[b,c]) (ls:=[lb,d]) (JW w #[a,b,c] 3 (IB _) (by unfold maxLen;omega) rfl) (k.kp ((Kp.refl _).alloc _)) rfl (λi g=>by
  match i,g with
  | 0,_=>exact j.kp ((Kp.refl _).alloc _)
  | 1,_=>exact h.kp ((Kp.refl _).alloc _))
theorem RL.row4 (w:World)(e:TypeId){b d:Value}{h g:List UInt8}(n:Rd w a h)(m:Rd w b lb)(l:Rd w c g)(k:Rd w d f):RL (w.alloc (.cells #[a,b,c,d] e)) (.slice (some ⟨w.heap.size,0,none⟩) 4 4) [h,lb,g,f]:=
 RL.cons (us:=[b,c,d]) (ls:=[lb,g,f]) (JW w #[a,b,c,d] 4 (IB _) (by unfold maxLen;omega) rfl) (n.kp ((Kp.refl _).alloc _)) rfl (λi j=>by
  match i,j with
  | 0,_=>exact m.kp ((Kp.refl _).alloc _)
  | 1,_=>exact l.kp ((Kp.refl _).alloc _)
  | 2,_=>exact k.kp ((Kp.refl _).alloc _))
theorem br (h:Rd w v l):∃ a n c,v=.slice a n c:=by
 obtain⟨a,c,e,_⟩:=h.shape;exact⟨_,_,_,e⟩
theorem pI (n k:Int)(w:World)(b:-9223372036854775808<=n/\n<=9223372036854775807):
  Calls prog 209 #[.int .i64 n,.int .i64 k] w λe w'=>(∃ r,e=.returned r/\Ow 5 w' w.heap.size r (eP n k))/\Kp w w':=by
 have c:=Lib.hid (jG n k w b);clear b;go_enter func209,ntmps209;go_wp2_with fail;refine c.out.mono ?_;rintro _ f ⟨r,rfl,a,d⟩;obtain⟨i,g,h,rfl⟩:=br a.rd;clear c;go_wp2_with fail;go_ret;exact⟨⟨_,rfl,a⟩,d⟩
theorem ju (v:Value)(l:List UInt8)(w:World)(h:Rd w v l):
  Calls prog 180 #[v] w λe w'=>(∃ r,e=.returned r/\Ow 5 w' w.heap.size r (aO l))/\Kp w w':=by
 have d:=Lib.hid (qK v l w h);obtain⟨a,c,rfl,_,_⟩:=h.shape;clear h;go_enter func180,ntmps180;go_wp2_with fail;refine d.out.mono ?_;rintro _ g ⟨r,rfl,b,f⟩;obtain⟨k,i,j,rfl⟩:=br b.rd;clear d;go_wp2_with fail;go_ret;exact⟨⟨_,rfl,b⟩,f⟩
theorem Gh (v:Value)(b:List Int)(w:World)(z:RI w v b)(p:∀ i∈b,0<=i/\i<=65535)(A:b.length<=100):
  Calls prog 244 #[v] w λe w'=>(∃ r,e=.returned r/\Ow 5 w' w.heap.size r (unB b))/\Kp w w':=by
 have U:=ag;have u:=Lib.hid z;obtain⟨a,c,rfl,_,_⟩:=z.shape;obtain⟨f,j⟩:∃ f,b.length=f:=⟨_,rfl⟩;rw[j] at u A ⊢;have D:Hid (∀ (i:Nat) W,i<f->Calls prog 209 #[.int .i64 (b.getD i 0),.int .i64 2] W λe w'=>(∃ r,e=.returned r/\Ow 5 w' W.heap.size r (be 2 (b.getD i 0).toNat))/\Kp W w'):=λi W E=>by
  have I:b.getD i 0∈b:=by rw[Iw,Iy (by omega)];exact Jg _
  obtain⟨K,J⟩:=p _ I;rw[<-rY ⟨K,J⟩];exact pI _ _ W (by omega)
 have l:Hid (∀ i,i<f->unB (b.take (i+1))=unB (b.take i)++be 2 (b.getD i 0).toNat):=λi E=>by
  rw[<-AD];congr 1
  rw[List.take_add_one,Iw,Iy (by omega)];rfl
 have m:Hid (b.take f=b):=by unfold Hid;rw[<-j];exact Jz
 have k:Hid (∀ i,(unB (b.take i)).length<=200):=λi=>by rw[qz,Ja];omega
 clear j p z;go_enter func244,ntmps244;go_wp2_with fail;go_loopw[3,8] (λv x wr=>∃ i:Nat,i<=f/\x=.int .i64 (i:Int)/\Ow 5 wr w.heap.size v (unB (b.take i))/\Kp w wr) (λ_ x _=>(f - (intOf x).toNat))
 case atStart=>exact⟨0,IO _,rfl,by rw[Lq];exact Ow.nil _ _ _,Kp.refl _⟩
 case round=>
  obtain⟨i,E,rfl,n,d⟩:=hrel;by_cases g:i<f
  ·obtain⟨Z,S,rfl,_,s⟩:=(u.out.kp d).at i g
   have M:=s i g;have Y:IntKind.i64.wrap ((i:Int)+1)=(i:Int)+1:=IA _ (by omega);have V:(i:Int)<(f:Int):=by omega
   have C:=Lib.hid (D.out i wr g);have h:=Lib.hid (l.out i g);have F:=Lib.hid d;have o:=Lib.hid n;have q:=k.out i;generalize b.getD i 0=X at *;obtain⟨B,t⟩:∃ B,unB (b.take i)=B:=⟨_,rfl⟩;rw[t] at o h q;clear s d n D l t k m u;go_wp2_with fail;refine C.out.mono ?_;rintro _ P ⟨⟨R,rfl,H⟩,y⟩;go_wp2_with(at_builtin;refine cj U rfl _ _ rfl w.heap.size _ B rfl (o.out.kp y) _ _ rfl H.rd (by rw[bT];omega) (F.out.trans y).size ?_;intro Q O G L _;have N:=Lib.hid (Kp.grown (F.out.trans y) L o.out.own_ge))
   go_roundw
   case rel=>exact⟨i+1,by omega,by go_num,by rw[h.out];exact G,N.out⟩
   case measure=>simp[intOf];omega
  ·obtain rfl:i=f:=by omega
   rw[m.out] at n;have q:¬(i:Int)<(i:Int):=by omega
   obtain⟨av,T,cv,rfl⟩:=br n.rd;have o:=Lib.hid (IC n d);clear d n D l k m u;go_wp2_with fail;go_ret;exact⟨⟨_,rfl,o.out.1⟩,o.out.2⟩
theorem rZ (x:UInt8)(v:Value)(ls:List (List UInt8))(w:World)(h:RL w v ls)(f:0<ls.flatten.length)(l:ls.flatten.length<=1900)(y:ls.length<=1000):
  Calls prog 179 #[.int .u8 (x.toNat:Int),v] w λe w'=>(∃ r,e=.returned r/\Ow 5 w' w.heap.size r (bH ([x]++ls.flatten)))/\Kp w w':=by
 have U:=ag;have s:=Lib.hid (λW (z:Kp w W)=>kC v ls W (h.kp z) f (by omega) (by omega));obtain⟨a,c,rfl,_,_⟩:=h.shape;have q:=Lib.hid (Ow.lit w 5 w.heap.size 1 #[.int .u8 (x.toNat:Int)] [x] (IB _) rfl (by omega) rfl);have t:=Lib.hid (IC f l);clear h f l y;go_enter func179,ntmps179;go_wp2_with fail;refine(s.out _ ((Kp.refl _).alloc _)).mono ?_;rintro _ B ⟨⟨C,rfl,j⟩,d⟩;have p:=Lib.hid (((Kp.refl w).alloc (.cells #[.int .u8 (x.toNat:Int)] 5)).trans d);have b:=Lib.hid (q.out.kp d);clear d q s;go_wp2_with(at_builtin;refine cj U rfl _ _ rfl w.heap.size _ [x] rfl b.out _ _ rfl j.rd (by have:=t.out;simp only[Jf,Jq];omega) p.out.size ?_;intro u w2 i m _;have o:=Lib.hid (Kp.grown p.out m b.out.own_ge))
 refine(tW u ([x]++ls.flatten) w2 i.rd (by have:=t.out;simp only[IE,Jf,Jq];omega)).mono ?_;rintro _ A ⟨⟨E,D,rfl,g⟩,k⟩;have n:=Lib.hid (IC g (o.out.trans k));clear g k i m b j;go_wp2_with fail;go_ret;exact⟨⟨_,rfl,n.out.1.mono o.out.size⟩,n.out.2⟩
theorem yb (v:Value)(n:Nod)(w:World)(hv:NV w v n)(hn:dM n):
  Calls prog 207 #[v] w λe w'=>(∃ r,e=.returned r/\Ow 5 w' w.heap.size r (dL n))/\Kp w w':=by
 obtain⟨p,aa,h,rfl,ip,iu,ih⟩:=hv;have o:=(oz hn).1;obtain⟨a,t,pub,M,d⟩:=n;obtain⟨hk,ae,L,A,z,U⟩:=hn;simp only at hk ae L A z U ip iu ih;obtain⟨I,C,G,rfl⟩:=br ip;obtain⟨J,D,H,rfl⟩:=br ih;obtain⟨Y,R,V,rfl⟩:=iu.sl;simp only[bV];obtain⟨u,F⟩:∃ u:Int->World,u=λa=>w.alloc (.cells #[.int .i64 a,.int .i64 t,.slice I C G,.slice Y R V,.slice J D H] 81):=⟨_,rfl⟩
 have l:Hid (∀ a,Kp w (u a)):=λa=>by rw[F];exact(Kp.refl _).alloc _
 have s:Hid (∀ a,(u a).rangeAt w.heap.size 0 [.int .i64 a,.int .i64 t,.slice I C G,.slice Y R V,.slice J D H]):=λa=>by
  rw[F];intro j v hv;rw[cell_of_row _ _ (0+j) _ _ _ (heap_alloc_new w _)];simpa using hv
 have g:Hid (∀ a W,Kp (u a) W->W.cell? ⟨w.heap.size,0,none⟩=some (.int .i64 a)/\W.cell? ⟨w.heap.size,1,none⟩=some (.int .i64 t)/\W.cell? ⟨w.heap.size,2,none⟩=some (.slice I C G)/\W.cell? ⟨w.heap.size,3,none⟩=some (.slice Y R V)/\W.cell? ⟨w.heap.size,4,none⟩=some (.slice J D H)):=λa W k=>
  ⟨k.cell (s.out a 0 _ rfl),k.cell (s.out a 1 _ rfl),k.cell (s.out a 2 _ rfl),k.cell (s.out a 3 _ rfl),k.cell (s.out a 4 _ rfl)⟩
 have HP:Hid (∀ a W,Kp (u a) W->Calls prog 180 #[.slice I C G] W λe w'=>(∃ r,e=.returned r/\Ow 5 w' W.heap.size r (aO pub))/\Kp W w'):=λa W k=>ju _ pub W (ip.kp ((l.out a).trans k))
 have HH:Hid (∀ a W,Kp (u a) W->Calls prog 180 #[.slice J D H] W λe w'=>(∃ r,e=.returned r/\Ow 5 w' W.heap.size r (aO d))/\Kp W w'):=λa W k=>ju _ d W (ih.kp ((l.out a).trans k))
 have B:Hid (∀ a W,Kp (u a) W->Calls prog 244 #[.slice Y R V] W λe w'=>(∃ r,e=.returned r/\Ow 5 w' W.heap.size r (unB M))/\Kp W w'):=λa W k=>Gh _ M W (iu.kp ((l.out a).trans k)) (λi hi=>by have:=U i hi;omega) z
 have ab:Hid (∀ W,Calls prog 209 #[.int .i64 t,.int .i64 2] W λe w'=>(∃ r,e=.returned r/\Ow 5 w' W.heap.size r (be 2 t.toNat))/\Kp W w'):=λW=>by rw[<-rY ae];exact pI _ _ W (by omega)
 have f:Hid (∀ (a:Int) (b:UInt8) W,eP a 1=[b]->-9223372036854775808<=a/\a<=9223372036854775807->Calls prog 209 #[.int .i64 a,.int .i64 1] W λe w'=>(∃ r,e=.returned r/\Ow 5 w' W.heap.size r [b])/\Kp W w'):=λa b W e hb=>by rw[<-e];exact pI _ _ W hb
 have q:Hid (∀ a,w.alloc (.cells #[.int .i64 a,.int .i64 t,.slice I C G,.slice Y R V,.slice J D H] 81)=u a):=λa=>by rw[F]
 clear F s ip iu ih L A z U;rcases hk with rfl|rfl|rfl
 ·have g:=Lib.hid (g.out 0);have HW:=Lib.hid (q.out 0);have m:=Lib.hid (l.out 0)
  have f:=Lib.hid (λW=>f.out 0 0 W (by decide) (by omega));generalize u 0=WN at *;clear l HP HH B ab q;go_enter func207,ntmps207;go_wp2_with fail;rw[HW.out];have X:=(g.out _ (Kp.refl _)).1;go_wp2_with fail;refine(f.out _).mono ?_;rintro _ w2 ⟨⟨r2,rfl,x⟩,y⟩;have K:=Lib.hid (IC x y);have X:=(g.out _ y).1;obtain⟨a2,n2,b2,rfl⟩:=br x.rd;clear x y;go_wp2_with fail;go_ret;exact⟨⟨_,rfl,K.out.1.mono m.out.size⟩,m.out.trans K.out.2⟩
 ·have g:=Lib.hid (g.out 1);have HW:=Lib.hid (q.out 1);have m:=Lib.hid (l.out 1)
  have HP:=Lib.hid (HP.out 1);have HH:=Lib.hid (HH.out 1);have f:=Lib.hid (λW=>f.out 1 1 W (by decide) (by omega));have HE:Hid (dL ⟨1,t,pub,M,d⟩=[[1],be 2 t.toNat,aO pub,aO d].flatten):=by unfold Hid;simp[dL]
  rw[HE.out] at o ⊢;have ad:=Lib.hid o;generalize u 1=WN at *;clear l B q o;go_enter func207,ntmps207;go_wp2_with fail;rw[HW.out];have X:=(g.out _ (Kp.refl _)).1;go_wp2_with fail;refine(f.out _).mono ?_;rintro _ w2 ⟨⟨r2,rfl,x⟩,y⟩;have K:=Lib.hid y;have O2:=Lib.hid x.rd;have X:=(g.out _ y).1;obtain⟨a2,n2,b2,rfl⟩:=br x.rd;clear x y;go_wp2_with fail;have c:Hid (∀ W,Kp WN W->W.cell? ⟨w.heap.size,1,none⟩=some (.int .i64 t)/\W.cell? ⟨w.heap.size,2,none⟩=some (.slice I C G)/\W.cell? ⟨w.heap.size,4,none⟩=some (.slice J D H)):=λW k=>⟨(g.out W k).2.1,(g.out W k).2.2.1,(g.out W k).2.2.2.2⟩
  have S2:=Lib.hid (c.out _ K.out.drew);clear g HW f HE X;go_region_held3 (λW=>W.cell? ⟨w.heap.size,1,none⟩=some (.int .i64 t)/\W.cell? ⟨w.heap.size,2,none⟩=some (.slice I C G)/\W.cell? ⟨w.heap.size,4,none⟩=some (.slice J D H))
   (first|with_reducible exact S2.out|with_reducible exact S3.out|with_reducible exact S4.out|with_reducible exact S5.out|with_reducible exact S6.out|with_reducible exact c.out _ (K5.out.alloc _))
   (first
    | (go_at_call 168;refine(kC _ [[1],be 2 t.toNat,aO pub,aO d] _ (RL.row4 w5 24 (O2.out.kp D5.out.1) (Q.rd.kp D5.out.2.1) (P.rd.kp D5.out.2.2) O.rd) (by simp) (by have:=ad.out;omega) (by simp)).mono ?_;rintro _ w6 ⟨⟨r6,rfl,N⟩,S⟩;obtain⟨a6,n6,b6,rfl⟩:=br N.rd;have K6:=Lib.hid ((K5.out.alloc _).trans S);have S6:=Lib.hid (c.out _ K6.out))
    | (go_at_call 180;refine(HH.out _ K4.out).mono ?_;rintro _ w5 ⟨⟨r5,rfl,O⟩,E⟩;obtain⟨a5,n5,b5,rfl⟩:=br O.rd;have K5:=Lib.hid (K4.out.trans E);have S5:=Lib.hid (c.out _ K5.out);have D5:=Lib.hid (IC (D4.out.1.trans E) (IC (D4.out.2.trans E) E)))
    | (go_at_call 180;refine(HP.out _ K3.out).mono ?_;rintro _ w4 ⟨⟨r4,rfl,P⟩,T⟩;obtain⟨a4,n4,b4,rfl⟩:=br P.rd;have K4:=Lib.hid (K3.out.trans T);have S4:=Lib.hid (c.out _ K4.out);have D4:=Lib.hid (IC (D3.out.trans T) T))
    | (go_at_call 209;refine(ab.out _).mono ?_;rintro _ w3 ⟨⟨r3,rfl,Q⟩,k3⟩;obtain⟨a3,n3,b3,rfl⟩:=br Q.rd;have K3:=Lib.hid (K.out.drew.trans k3);have S3:=Lib.hid (c.out _ K3.out);have D3:=Lib.hid ((Kp.drew (Kp.refl w2)).trans k3)))
  have Z:=Lib.hid (IC N (IC K5.out K6.out));clear S2 S3 S4 S5 S6 N O P Q S c;go_wp2_with fail;go_ret;exact⟨⟨_,rfl,Z.out.1.mono (IU (m.out.trans Z.out.2.1).size (by simp))⟩,m.out.trans Z.out.2.2⟩
 ·have g:=Lib.hid (g.out 2);have HW:=Lib.hid (q.out 2);have m:=Lib.hid (l.out 2)
  have HP:=Lib.hid (HP.out 2);have HH:=Lib.hid (HH.out 2);have B:=Lib.hid (B.out 2);have f:=Lib.hid (λW=>f.out 2 2 W (by decide) (by omega));have HE:Hid (dL ⟨2,t,pub,M,d⟩=[[2],aO pub,aO d,aO (unB M)].flatten):=by unfold Hid;simp[dL]
  rw[HE.out] at o ⊢;have ad:=Lib.hid o;generalize u 2=WN at *;clear l q o ab;go_enter func207,ntmps207;go_wp2_with fail;rw[HW.out];have X:=(g.out _ (Kp.refl _)).1;go_wp2_with fail;refine(f.out _).mono ?_;rintro _ w2 ⟨⟨r2,rfl,x⟩,y⟩;have K:=Lib.hid y;have O2:=Lib.hid x.rd;have X:=(g.out _ y).1;obtain⟨a2,n2,b2,rfl⟩:=br x.rd;clear x y;go_wp2_with fail;have c:Hid (∀ W,Kp WN W->W.cell? ⟨w.heap.size,2,none⟩=some (.slice I C G)/\W.cell? ⟨w.heap.size,3,none⟩=some (.slice Y R V)/\W.cell? ⟨w.heap.size,4,none⟩=some (.slice J D H)):=λW k=>⟨(g.out W k).2.2.1,(g.out W k).2.2.2.1,(g.out W k).2.2.2.2⟩
  have S2:=Lib.hid (c.out _ K.out.drew);clear g HW f HE X;go_region_held3 (λW=>W.cell? ⟨w.heap.size,2,none⟩=some (.slice I C G)/\W.cell? ⟨w.heap.size,3,none⟩=some (.slice Y R V)/\W.cell? ⟨w.heap.size,4,none⟩=some (.slice J D H))
   (first|with_reducible exact S2.out|with_reducible exact S3.out|with_reducible exact S4.out|with_reducible exact S5.out|with_reducible exact S6.out|with_reducible exact S7.out|with_reducible exact c.out _ (K6.out.alloc _))
   (first
    | (go_at_call 168;refine(kC _ [[2],aO pub,aO d,aO (unB M)] _ (RL.row4 w6 24 (O2.out.kp D6.out.1) (Q.rd.kp D6.out.2.1) (P.rd.kp D6.out.2.2) N.rd) (by simp) (by have:=ad.out;omega) (by simp)).mono ?_;rintro _ w7 ⟨⟨r7,rfl,o7⟩,k7⟩;obtain⟨a7,n7,b7,rfl⟩:=br o7.rd;have K7:=Lib.hid ((K6.out.alloc _).trans k7);have S7:=Lib.hid (c.out _ K7.out))
    | (go_at_call 180;refine(ju _ (unB M) w5 O.rd).mono ?_;rintro _ w6 ⟨⟨r6,rfl,N⟩,S⟩;obtain⟨a6,n6,b6,rfl⟩:=br N.rd;have K6:=Lib.hid (K5.out.trans S);have S6:=Lib.hid (c.out _ K6.out);have D6:=Lib.hid (IC (D5.out.1.trans S) (IC (D5.out.2.1.trans S) (D5.out.2.2.trans S))))
    | (go_at_call 244;refine(B.out _ K4.out).mono ?_;rintro _ w5 ⟨⟨r5,rfl,O⟩,E⟩;obtain⟨a5,n5,b5,rfl⟩:=br O.rd;have K5:=Lib.hid (K4.out.trans E);have S5:=Lib.hid (c.out _ K5.out);have D5:=Lib.hid (IC (D4.out.1.trans E) (IC (D4.out.2.trans E) E)))
    | (go_at_call 180;refine(HH.out _ K3.out).mono ?_;rintro _ w4 ⟨⟨r4,rfl,P⟩,T⟩;obtain⟨a4,n4,b4,rfl⟩:=br P.rd;have K4:=Lib.hid (K3.out.trans T);have S4:=Lib.hid (c.out _ K4.out);have D4:=Lib.hid (IC (D3.out.trans T) T))
    | (go_at_call 180;refine(HP.out _ K.out.drew).mono ?_;rintro _ w3 ⟨⟨r3,rfl,Q⟩,k3⟩;obtain⟨a3,n3,b3,rfl⟩:=br Q.rd;have K3:=Lib.hid (K.out.drew.trans k3);have S3:=Lib.hid (c.out _ K3.out);have D3:=Lib.hid ((Kp.drew (Kp.refl w2)).trans k3)))
  have Z:=Lib.hid (IC o7 (IC K6.out K7.out));clear S2 S3 S4 S5 S6 S7 o7 N O P Q k7 c;go_wp2_with fail;go_ret;exact⟨⟨_,rfl,Z.out.1.mono (IU (m.out.trans Z.out.2.1).size (by simp))⟩,m.out.trans Z.out.2.2⟩
section
open Go.ChangeShapes Go.Deep Go.WideShapes
instance:Inhabited Nod:=⟨aY⟩
section
variable {H : Type} {enc : TypeId × Value -> H} {P : Program} {w : World} {base : Nat} {spare : Nat -> Bool} {held : Bool}
theorem RI.of_one {c:Nat}{x:DataW H × List MemPlace}(g:P.underlying t=some (.slice e))(k:P.underlying e=some (.int .i64))(m:P.cellsOf e=1)
  (h:DataW.trod enc P w base spare held c t [v]=some x):∃ l,RI w v l:=by
 rcases open_ints g k m h with⟨hcs,_⟩|⟨a,len,cap,zs,hcs,_,hl,hm,hz,_,hcell,_⟩
 ·cases hcs
  exact⟨[],RI.nil w⟩
 ·cases hcs
  have d:len<=zs.length:=by rw[hz];split <;> omega
  have b:((zs.take len).map nI).length=len:=by simp;omega
  refine⟨zs.take len,some a,cap,by rw[b],by rw[b];exact hl,hm,λh=>(by cases h),λy f i j=>?_⟩;cases f;rw[b] at j;rw[hcell i (by omega)];simp[nI,Iw,Iy (show i<zs.length by omega)]
theorem NL.of_cells {y s r o k:Field}{F:Nat}{cs:List Value}{x:DataW H × List MemPlace}{J U:TypeId}(ht:P.underlying t=some (.slice e))(he:P.underlying e=some (.struct #[y,s,r,o,k]))
  (c:oneCellFields P #[y,s,r,o,k]=true) (hC:P.cellsOf e=5) (I:P.underlying y.type=some (.int .i64)) (h1:P.underlying s.type=some (.int .i64)) (h2:P.underlying r.type=some (.slice J)) (h3:P.underlying o.type=some (.slice U)) (h4:P.underlying k.type=some (.slice J))
  (W:P.underlying J=some (.int .u8)) (E:P.cellsOf J=1) (G:P.underlying U=some (.int .i64)) (S:P.cellsOf U=1)
  (h:DataW.trod enc P w base spare held F t cs=some x):∃ v l,cs=[v]/\NL w v l:=by
 rcases open_slice ht h with⟨hcs,_⟩|⟨a,len,cap,m,n,D,Pl,hcs,_,hl,hm,hmm,_,hel⟩
 ·exact⟨_,[],hcs,NL.nil w⟩
 ·have aa:len<=m:=by rw[hmm];split <;> omega
  rw[hC] at hel;have key:∀ i,i<len->∃ nd:Nod,∃ p u q,(w.cell? (a.add (i*5))=some (.int .i64 nd.kind)/\w.cell? ((a.add (i*5)).add 1)=some (.int .i64 nd.name)/\w.cell? ((a.add (i*5)).add 2)=some p/\w.cell? ((a.add (i*5)).add 3)=some u/\w.cell? ((a.add (i*5)).add 4)=some q)/\NIn w nd p u q:=by
   intro i ab;obtain⟨V,T,N⟩:=hel i (by omega);obtain⟨_,O,d⟩:=World.cells?_some T;obtain⟨xs,n',_,_,_,L,B⟩:=DataW.trod_struct he N;obtain⟨o0,k0⟩:=hone_of c 0 y rfl;obtain⟨o1,k1⟩:=hone_of c 1 s rfl;obtain⟨o2,k2⟩:=hone_of c 2 r rfl;obtain⟨o3,k3⟩:=hone_of c 3 o rfl;obtain⟨o4,k4⟩:=hone_of c 4 k rfl;match V,O with
   | [c0,c1,c2,c3,c4],_=>
    have M:xs.length=5:=L;match xs,M with
    | [y0,y1,y2,y3,y4],_=>
     have g0:DataW.trod enc P w base spare held n' y.type [c0]=some y0:=by simpa [o0,k0] using B 0 y rfl
     have g1:DataW.trod enc P w base spare held n' s.type [c1]=some y1:=by simpa [o1,k1] using B 1 s rfl
     have g2:DataW.trod enc P w base spare held n' r.type [c2]=some y2:=by simpa [o2,k2] using B 2 r rfl
     have g3:DataW.trod enc P w base spare held n' o.type [c3]=some y3:=by simpa [o3,k3] using B 3 o rfl
     have g4:DataW.trod enc P w base spare held n' k.type [c4]=some y4:=by simpa [o4,k4] using B 4 k rfl
     obtain⟨n0,e0,_,_⟩:=Lv I g0;obtain⟨n1,e1,_,_⟩:=Lv h1 g1;cases e0;cases e1;obtain⟨l2,r2⟩:=Rd.of_one h2 W E g2;obtain⟨l3,r3⟩:=RI.of_one h3 G S g3;obtain⟨l4,r4⟩:=Rd.of_one h4 W E g4;refine⟨⟨n0,n1,l2,l3,l4⟩,c2,c3,c4,⟨?_,d 1 (by omega),d 2 (by omega),d 3 (by omega),d 4 (by omega)⟩,r2,r3,r4⟩;have:=d 0 (by omega);rwa [show(a.add (i*5)).add 0=a.add (i*5) by unfold Addr.add;split <;> simp_all] at this
  obtain⟨l,f,A⟩:=sW len _ key aY;refine⟨_,l,by rw[hcs,f],some a,cap,rfl,by omega,hm,λh=>(by cases h),λI=>?_⟩;rw[f] at I;obtain⟨b,K,z⟩:=a;obtain⟨p,u,q,⟨C,_⟩,_⟩:=A 0 I;have hs:z=none:=by simpa [Addr.add] using Lu C
  subst hs;refine⟨b,K,rfl,Jb w _ C,λi G=>?_⟩;rw[f] at G;obtain⟨p,u,q,⟨d0,d1,Z,Y,X⟩,R⟩:=A i G;simp only[Addr.add_mid] at d0 d1 Z Y X;refine⟨p,u,q,λj v g=>?_,R⟩;have Q:j<5:=(Jk.1 g).1;match j,Q with
  | 0,_=>cases g;exact d0
  | 1,_=>cases g;exact d1
  | 2,_=>cases g;exact Z
  | 3,_=>cases g;exact Y
  | 4,_=>cases g;exact X
end

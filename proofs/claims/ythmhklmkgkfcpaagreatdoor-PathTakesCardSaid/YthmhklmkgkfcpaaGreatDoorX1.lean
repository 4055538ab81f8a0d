import Derived.Test.YthmhklmkgkfcpaaGreatDoorX0
import Derived.Deep.QuietTactic
import Derived.RangeFuncNested
import Derived.RangeFuncBound
import Derived.RangeFuncCalls
import Derived.RangeFuncLeaves
import Derived.RangeFuncFrom
import Derived.Shelf.Abstract
import Derived.Shelf.RegionOpen
import Derived.OwnWalkIn
import Derived.TacticsInMore
import Derived.LoopNIn
import Derived.LoopIn
import Derived.ProofKit
import Derived.Deep.Slices
import Derived.Lib.SmallJoins
import Derived.Test.YthmhklmkgkfcpaaGreatDoorRows
import Derived.WalkSpells
import Derived.Outline
import Derived.Laws.AppendOwn
import Derived.Deep.RegionLaw
import Derived.BigQuiet
import Derived.Laws.Rows
import Derived.Laws.Tables
set_option linter.all false
set_option maxHeartbeats 8000000
set_option maxRecDepth 100000
namespace Go.Proofs.YthmhklmkgkfcpaaGreatDoor
open Go.Proofs.Tryz Go.RowKit
variable {A w w':World}{B a b c d i k n p x y:Nat}{P:Program}{Q:Exit->Act->World->Prop}{T e t:TypeId}{X:Nat->Prop}{l:List UInt8}{o:Oper}{v:Value}
def Kp (w w':World):Prop:=Below w.heap.size w w'
theorem Kp.refl (w:World):Kp w w:=Below.refl _ _
def NQ:=@Kp.refl
theorem Kp.trans {a b c:World}(h:Kp a b)(k:Kp b c):Kp a c:=Below.trans h (Below.mono k h.size)
theorem Kp.drew {a b:World}(h:Kp a b):Kp a b.drew:=Below.drew h
theorem Kp.alloc {a b:World}(h:Kp a b)(o:Obj):Kp a (b.alloc o):=Below.alloc h h.size o
theorem Kp.cell (h:Kp w w'){p:Addr}(a:w.cell? p=some v):w'.cell? p=some v:=
 (Below.cell h (Kl w p a)).trans a
def Rd (w:World)(v:Value)(l:List UInt8):Prop:=
 ∃ a c,v=.slice a l.length c/\l.length<=c/\c<=maxLen/\(a=none->c=0) /\
  ∀ x,a=some x->∀ i,(h:i<l.length)->w.cell? (x.add i)=some (.int .u8 ((l[i]'h).toNat:Int))
theorem Rd.kp (h:Rd w v l)(k:Kp w w'):Rd w' v l:=by
 obtain⟨a,c,rfl,j,g,f,e⟩:=h;exact⟨a,c,rfl,j,g,f,λx b i d=>k.cell (e x b i d)⟩
theorem Rd.at {a:Option Addr}(h:Rd w (.slice a n c) l)(k:Nat)(q:k<n):
  ∃ b d,a=some ⟨b,d,none⟩/\b<w.heap.size/\∀ i,i<n->w.cell? ⟨b,d+i,none⟩=some (.int .u8 ((l.getD i 0).toNat:Int)):=by
 obtain⟨u,t,e,s,r,p,j⟩:=h
 simp only[JR] at e
 obtain⟨rfl,rfl,rfl⟩:=e
 cases a with
 | none=>have:=p rfl;omega
 | some x=>
  obtain⟨b,d,f⟩:=x
  have m:=j _ rfl 0 (by omega)
  have o:f=none:=by simpa [Addr.add] using MJ m
  subst o
  refine⟨b,d,rfl,Kl w _ m,λi g=>?_⟩
  have:=j _ rfl i g
  rw[JF,JG g,Mt,<-this]
  congr 1
  unfold Addr.add
  split <;> simp_all
theorem Rd.len {a:Option Addr}(h:Rd w (.slice a n c) l):n=l.length/\n<=c/\c<=maxLen:=by
 obtain⟨j,i,e,d,b,g,f⟩:=h;simp only[JR] at e;obtain⟨rfl,rfl,rfl⟩:=e;exact⟨rfl,d,b⟩
theorem Rd.shape (h:Rd w v l):∃ a c,v=.slice a l.length c/\l.length<=c/\c<=maxLen:=by
 obtain⟨j,i,e,d,b,g,f⟩:=h;exact⟨_,_,e,d,b⟩
def val (l:List UInt8):Nat:=l.foldl (λn b=>256*n+b.toNat) 0
theorem mn (l:List UInt8)(k:Nat)(h:k<l.length):l.take (k+1)=l.take k++[l.getD k 0]:=by
 rw[JZ h,JF,JG h];rfl
def be:Nat->Nat->List UInt8
 | 0,_=>[]
 | w+1,n=>be w (n / 256)++[UInt8.ofNat n]
theorem bq:∀ w n,(be w n).length=w
 | 0,_=>rfl
 | w+1,n=>by simp[be,bq w]
theorem tA (w:World)(b d e:TypeId)(v:Value)(l:List UInt8)(h:Rd w v l)(f:P.underlying b=some (.slice e))(g:P.underlying e=some (.int .u8))(i:P.underlying d=some .string):
  (convert b d v).run P w=.ok (.string ⟨l.toArray⟩) w:=by
 obtain⟨a,c,rfl,o,n,m,k⟩:=h
 cases a with
 | none=>
  have j:l=[]:=by have:=m rfl;exact Kg (by omega)
  subst j
  rw[run_convert_bytes_nil w b e f g _ _ d i]
  rfl
 | some x=>exact run_convert_bytes_back w b d e x c l f g i (k x rfl)
theorem zG (n:Int)(b:0<=n)(a:n<2 ^ 63):IntKind.i64.wrap n=n:=by rw[Nf];omega
theorem jc:∀ t n,be (t+1) n=UInt8.ofNat (n / 256 ^ t) :: be t n
 | 0,n=>by simp[be]
 | t+1,n=>by
  rw[be,jc t (n / 256),be,Ll,Lw,MH,Me 256]
def Ow (e:TypeId)(w:World)(B:Nat)(v:Value)(l:List UInt8):Prop:=w.ownsRow B e 1 v l.length (Lib.byteCells l)
theorem cO (l:List UInt8):(Lib.byteCells l).length=l.length:=by simp[Lib.byteCells]
theorem gC (l:List UInt8)(i:Nat)(h:i<l.length):(Lib.byteCells l)[i]?=some (.int .u8 ((l[i]'h).toNat:Int)):=by
 simp[Lib.byteCells,KX,JG h]
theorem mr (l m:List UInt8):Lib.byteCells (l++m)=Lib.byteCells l++Lib.byteCells m:=by simp[Lib.byteCells]
theorem Ow.shape (h:Ow e w B v l):
  (v=.slice none 0 0/\l=[])\/∃ g c,v=.slice (some ⟨g,0,none⟩) l.length c/\B<=g/\g<w.heap.size/\l.length<=c/\c<=maxLen:=by
 rcases h.2 with⟨rfl,h0⟩|⟨g,cap,cur,rfl,hb,hg,hn,hm,_⟩
 ·exact .inl ⟨rfl,Kg h0⟩
 ·exact .inr ⟨g,cap,rfl,hb,(JK.1 hg).1,hn,hm⟩
theorem Ow.rd (h:Ow e w B v l):Rd w v l:=by
 rcases h.shape with⟨rfl,rfl⟩|⟨g,c,rfl,_,_,hc,hm⟩
 ·exact⟨none,0,rfl,JO _,JW _,λ_=>rfl,λx a=>by cases a⟩
 ·refine⟨_,c,rfl,hc,hm,λh=>(by cases h),λx a i b=>?_⟩
  cases a;have:=World.ownsRow.cellAt h i (by omega);rw[gC l i b] at this;rw[<-this];congr 1
  unfold Addr.add;split <;> simp_all
theorem Ow.kp (h:Ow e w B v l)(k:Kp w w'):Ow e w' B v l:=by
 refine⟨h.1,?_⟩;rcases h.2 with d|⟨g,b,a,rfl,f,c,rest⟩
 ·exact .inl d
 ·exact .inr ⟨g,b,a,rfl,f,(Below.block k g (JK.1 c).1).trans c,rest⟩
theorem Ow.mono {B':Nat}(h:Ow e w B v l)(f:B'<=B):Ow e w B' v l:=by
 refine⟨h.1,?_⟩;rcases h.2 with d|⟨g,c,b,rfl,a,rest⟩
 ·exact .inl d
 ·exact .inr ⟨g,c,b,rfl,Kd f a,rest⟩
theorem Ow.nil (e:TypeId)(w:World)(B:Nat):Ow e w B (.slice none 0 0) []:=Ns _ _ _ _
def NR:=@Ow.nil
theorem Kp.grown {w0 w w':World}{v:Value}(h:Kp w0 w)(b:w.grownBy w' v.ownBlock)(a:∀ k,v.ownBlock=some k->w0.heap.size<=k):Kp w0 w':=
 Below.grown h b h.size a
def NS:=@Kp.grown
theorem Ow.own_ge (h:Ow e w B v l):∀ k,v.ownBlock=some k->B<=k:=λk a=>(KU h k a).1
theorem Rd.cut {a:Option Addr}(h:Rd w (.slice a n c) l)(b d:Nat)(o:b<=d)(A:d<=n)(q:Option Addr)(n' p:Nat)
  (u:q=if c=b then a else a.map (·.add b)) (s:n'=d - b) (t:p=c - b):Rd w (.slice q n' p) ((l.drop b).take (d - b)):=by
 obtain⟨E,D,e,C,B,k,z⟩:=h;simp only[JR] at e;obtain⟨rfl,rfl,rfl⟩:=e;subst u s t;have m:((l.drop b).take (d - b)).length=d - b:=by simp;omega
 refine⟨_,c - b,by rw[m],by omega,by omega,λh=>?_,λx g i j=>?_⟩
 ·split at h
  ·have:=k h;omega
  ·cases a with
   | none=>have:=k rfl;omega
   | some y=>simp at h
 ·rw[m] at j
  split at g
  ·omega
  ·cases a with
   | none=>have:=k rfl;omega
   | some y=>
    simp only[Option.map_some,Ky] at g;subst g;have r:=z y rfl (b+i) (by omega);have f:(y.add b).add i=y.add (b+i):=by
     unfold Addr.add;by_cases v:b=0 <;> by_cases o:i=0 <;> simp[v,o,Mn]
    rw[f,r];simp
structure U8 (P:Program)(t e:TypeId):Prop where
 ht:P.underlying t=some (.slice e)
 hi:∃ i,P.info? e=some i/\i.zero=some (.int .u8 0)/\i.size=1/\i.bytes=1
theorem U8.mk' (d:P.underlying t=some (.slice e))(h:(P.info? e).map (λi=>(i.zero,i.size,i.bytes))=some (some (.int .u8 0),1,1)):U8 P t e:=by
 obtain⟨i,f,c,b,a⟩:=info_parts h;exact⟨d,i,f,c,b,a⟩
theorem Rd.box (w:World)(e:TypeId)(x:Int)(b:UInt8)(h:x=b.toNat):Rd (w.alloc (.cells #[.int .u8 x] e)) (.slice (some ⟨w.heap.size,0,none⟩) 1 1) [b]:=by
 subst h;refine⟨_,1,rfl,JO _,by unfold maxLen;omega,λh=>(by cases h),λy c i a=>?_⟩;cases c;have:i=0:=by simp at a;exact a
 subst this;simp[Addr.add,World.cell?,-World.alloc_eq,World.alloc]
theorem bw (U:U8 P t e){q:Array Oper}{rest:List Oper}{a:Act}(A:o.guard=none)(s x:Operand)
  (K:o.op=.call { callee:=.builtin .append,args:=#[s,x],argTypes:=#[t,t] })
  (B:Nat) (v:Value) (l:List UInt8) (J:a.eval s=v) (d:Ow e w B v l) (u:Value) (m:List UInt8) (I:a.eval x=u) (N:Rd w u m)
  (L:l.length+m.length<=140737488355328) (n:B<=w.heap.size)
  (h:∀ p w',Ow e w' B p (l++m)->w.grownBy w' v.ownBlock->(p=.slice none 0 0->l=[]/\m=[])->wpList P q Q rest (a.put o.dst p) w'):wpList P q Q (o :: rest) a w:=by
 obtain⟨i,M,D,f,H⟩:=U.hi
 obtain⟨C,c,rfl,X,W,r,k⟩:=N
 cases C with
 | none=>
  have G:=r rfl
  have E:m=[]:=Kg (by omega)
  subst E
  subst G
  refine wpList_append_own_none A s x t K B e i 1 U.ht M v l.length (Lib.byteCells l) J d I ?_
  refine h v w (by simpa using d) ⟨rfl,rfl,rfl,JO _,λ_ _ _=>rfl⟩ (λe=>?_)
  subst e
  rcases d.shape with⟨_,h⟩|⟨g,c,h,_⟩
  ·exact⟨h,rfl⟩
  ·cases h
 | some C=>
  refine wpList_append_own w A s x t K B e i (.int .u8 0) 1 1 U.ht M D f H rfl (by decide) v l.length (Lib.byteCells l) J d C m.length c (Lib.byteCells m) I (by rw[cO];omega) (λj z F=>?_) (λz D=>?_) (by unfold maxLen;omega) (by omega) n
   (λp w' S R O=>h p w' (by unfold Ow;rw[JQ,mr];exact S) R (λe=>?_))
  ·have y:j<m.length:=by
    have:=(Ks.1 F).1
    rwa [cO] at this
   rw[gC m j y] at F
   cases F
   exact k C rfl j y
  ·obtain⟨b,_,rfl⟩:=KN.1 D
   rfl
  ·obtain⟨V,T⟩:=O.1 e
   subst V
   rcases d.shape with⟨_,h⟩|⟨g,c,h,_⟩
   ·exact⟨h,Kg T⟩
   ·cases h
theorem Below.grown' {w0:World}(h:Below B w0 w)(b:w.grownBy w' v.ownBlock)(c:B<=w.heap.size)(a:Ow e w B v l):Below B w0 w':=
 Below.grown h b c a.own_ge
def pw (k:Nat):Nat:=256 ^ k
theorem zH (k:Nat):0<pw k:=Nat.pow_pos (by decide)
theorem tB (k:Nat):pw (k+1)=256*pw k:=by unfold pw;rw[MH];omega
theorem zI (k:Nat)(h:k<=6):pw k<=281474976710656:=by
 have b:256 ^ k<=256 ^ 6:=Lm (by omega) h;have a:(256:Nat) ^ 6=281474976710656:=by decide
 unfold pw;omega
theorem zJ (k:Nat)(h:k<=7):pw k<=72057594037927936:=by
 have b:256 ^ k<=256 ^ 7:=Lm (by omega) h;have a:(256:Nat) ^ 7=72057594037927936:=by decide
 unfold pw;omega
theorem Rd.cutAt (h:Rd w (.slice (some ⟨b,d,none⟩) n c) l)(a k:Nat)(f:a+k<=n)(g:a<c):
  Rd w (.slice (some ⟨b,d+a,none⟩) k (c - a)) ((l.drop a).take k):=by
 have:=h.cut a (a+k) (by omega) f _ k (c - a) rfl (by omega) rfl;rw[if_neg (by omega)] at this;have e:(⟨b,d,none⟩:Addr).add a=⟨b,d+a,none⟩:=by unfold Addr.add;split <;> simp_all
 simpa [e] using this
theorem Ow.lit (w:World)(e:TypeId)(B n:Nat)(cs:Array Value)(l:List UInt8)(c:B<=w.heap.size)(b:l.length=n)(d:n<=1000000)(a:cs.toList=Lib.byteCells l):
  Ow e (w.alloc (.cells cs e)) B (.slice (some ⟨w.heap.size,0,none⟩) n n) l:=by
 subst b;unfold Ow;rw[<-a];exact LJ w cs l.length c (by unfold maxLen;omega) (by rw[<-Nh,a,cO];omega)
def NT:=@Ow.lit
theorem qH {f:FuncId}{args:Array Value}
  (h:Calls P f args (w.drewN n) λe w'=>e=.returned v/\w.drewN n=w'):Calls P f args (w.drewN n) λe a=>e=.returned v/\∃ m,a=w.drewN m:=
 h.mono λ_ _ ⟨c,b⟩=>⟨c,n,b.symm⟩
theorem Kp.drewN {a b:World}(h:Kp a b)(n:Nat):Kp a (b.drewN n):=by
 induction n with
 | zero=>exact h
 | succ n ih=>exact ih.drew
def Yes (w:World)(e:Ending)(w':World):Prop:=e=.returned (.bool true)/\Kp w w'
structure bg (X:Nat->Prop)(A B:World):Prop where
 size:A.heap.size<=B.heap.size
 block:∀ k,k<A.heap.size->¬X k->B.heap[k]?=A.heap[k]?
theorem bg.refl (X:Nat->Prop)(A:World):bg X A A:=⟨JO _,λ_ _ _=>rfl⟩
theorem bg.trans {B C:World}(h:bg X A B)(k:bg X B C):bg X A C:=
 ⟨Kd h.size k.size,λi b a=>(k.block i (JV b h.size) a).trans (h.block i b a)⟩
theorem bg.of_kp {B:World}(h:Kp A B):bg X A B:=⟨h.size,λk a _=>h.block k a⟩
theorem bg.setCell {B:World}(h:bg X A B)(p:Addr)(v:Value)(b:X p.block):bg X A (B.setCell p v):=
 ⟨by simpa using h.size,λk c a=>(Below.heap_setCell B p v k (λe=>a (e▸b))).trans (h.block k c a)⟩
theorem bg.mono {Y:Nat->Prop}{B:World}(h:bg X A B)(a:∀ k,X k->Y k):bg Y A B:=⟨h.size,λk d c=>h.block k d (λb=>c (a k b))⟩
theorem bg.drew {B:World}(h:bg X A B):bg X A B.drew:=⟨h.size,h.block⟩
theorem bg.drewN {B:World}(h:bg X A B)(n:Nat):bg X A (B.drewN n):=h.trans (bg.of_kp ((NQ B).drewN n))
theorem je {D:Nat}{a W:World}(h:Below B a W)(b:B<=D)(c:B<=W.heap.size)(o:Obj):Below B a (W.putObj D o):=
 Below.grown h (grownBy_putObj' W D o) c (λk e=>by cases e;exact b)
section
variable {F : Fence} {n : Nat} {P : Program}
def qN (F:Fence)(m:Nat)(P:Program)(gf:Nat)(lb:Array Value)(encs:Nat->Array Value)(N:Nat)(X:Nat->Prop)(w:World):Prop:=
 ∀ (l:Nat) (J:Nat->World->Prop) (W:World),Below w.heap.size w W->w.heap.size<=l->l<W.heap.size->(∀ i A B,J i A->Below W.heap.size A B->J i B) ->
  (∀ i A,i<N->J i A->YieldAt F (m - 1) P l (encs i) A λe B=>e=.returned (.bool true)/\J (i+1) B/\bg (λk=>k=l\/X k) A B) ->
  J 0 W->CallsIn F m P gf (#[.func (.yield l) #[] #[]]++lb) W λe B=>(∃ v,e=.returned v)/\J N B
theorem kZ {g:Operand}{S:Array Tmp}{assign body:Code}{a:Act}
  (V:F.round=none) (h1:1<=n) {gf:Nat} {lb:Array Value} (hg:a.eval g=.func (.func gf) #[] lb) (al:F.fn gf) (eg:∀ args w,(callFunc gf args).run P w=.ok (.enter gf args) w)
  {encs:Nat->Array Value} {N:Nat}  (hX:∀ k,X k->k<w.heap.size) (aa:qN F (n - 1) P gf lb encs N X w) (Y:∀ i,(encs i).size=S.size)
  (I:Nat->World->Prop) (R:∀ i A B,I i A->Below w.heap.size A B->I i B) (h0:I 0 w) (r:Nat->Act)
  (d:∀ (l:Nat) (i:Nat) (W:World) (K:Act->World->Prop),K (r i) W ->
   assign.wpIn (F.inRound l) (n - 1 - 1) P (Exit.then K (λ_ _ _=>False)) { tmps:=(S.zip (encs i)).foldl (λt (p,v)=>t.setIfInBounds p v) a.tmps,defers:=[] } W)
  (y:∀ (l:Nat) (i:Nat) (W:World),I i W->i<N->body.wpIn (F.inRound l) (n - 1 - 1) P (λe _ W'=>e=.normal/\bg X W W'/\I (i+1) W') (r i) W)
  (u:∀ (D:Nat) (W:World),w.heap.size<=D->I N W->W.heap[D]?=some (.deferred (some []))->Q .normal { a with defers:={ target:=.collected D,args:=#[] } :: a.defers } W):
  (Code.rangeFunc g S assign body).wpIn F n P Q a w:=by
 refine wpIn_rangeFunc ?_;intro fn ab;rw[V];let rec':LoopState->Loop:=λst=>{ state:=st,pending:=none,fn,tmps:=a.tmps,params:=S,assign,body,defers:=w.heap.size }
 obtain⟨j,f⟩:∃ j,(w.alloc (.deferred (some []))).alloc (.loop (rec' .ready))=j:=⟨_,rfl⟩;have am:j.heap[w.heap.size]?=some (.deferred (some [])):=by
  rw[<-f];exact(Below.heap_alloc _ _ _ (by simp)).trans (heap_alloc_new w _)
 have ah:j.heap[w.heap.size+1]?=some (.loop (rec' .ready)):=by
  rw[<-f];have:=heap_alloc_new (w.alloc (.deferred (some []))) (.loop (rec' .ready));rwa [JY] at this
 have an:j.heap.size=w.heap.size+2:=by rw[<-f];simp
 have O:Below w.heap.size w j:=by rw[<-f];exact((Below.refl _ w).alloc (JO _) _).alloc (by simp) _
 have b:∀ (B:World) (o:Obj),w.heap.size+1<B.heap.size->Below w.heap.size B (B.putObj (w.heap.size+1) o)/\(B.putObj (w.heap.size+1) o).heap[w.heap.size]?=B.heap[w.heap.size]?:=λB o c=>
  ⟨Below.grown (Below.refl _ B) (grownBy_putObj' B (w.heap.size+1) o) (by omega) (λk e=>by cases e;omega),World.putObj_heap_other (by omega)⟩
 refine⟨w.heap.size+1,[{ target:=.collected w.heap.size,args:=#[] }],j,{ target:=.fn (.func gf) lb,args:=#[.func (.yield (w.heap.size+1)) #[] #[]] },j,gf,
  #[.func (.yield (w.heap.size+1)) #[] #[]]++lb,j,?_,?_,?_,?_,λ_=>h1,?_⟩
 ·rw[<-f];exact run_enterLoop_outer _ _ _ _ _
 ·simp only[resolve,hg]
  simp[go_sem]
 ·intro f' J
  simp[Target.leads] at J;subst J;exact al
 ·simp[invoke,go_sem,eg]
 ·refine(aa (w.heap.size+1) (λi W=>I i W/\W.heap[w.heap.size+1]?=some (.loop (rec' .ready))/\W.heap[w.heap.size]?=some (.deferred (some []))) j O (by omega) (by omega)
   (λi A B h hb=>⟨R i A B h.1 (hb.mono (by omega)),(hb.block _ (by omega)).trans h.2.1,(hb.block _ (by omega)).trans h.2.2⟩) ?_ ⟨R 0 _ _ h0 O,ah,am⟩).mono ?_
  ·rintro i A hi ⟨ai,z,hd⟩
   have c:w.heap.size+1<A.heap.size:=(JK.1 z).1;have hy:=run_yield (P:=P) (args:=encs i) z (Y i);have ag:(Instr.beginRound (w.heap.size+1)).run P A=.ok () (A.putObj (w.heap.size+1) (.loop (rec' .busy))):=run_beginRound z rfl;refine⟨fn,_,assign,body,hy,roundIn_of_wpIn ab (d _ i A _ ⟨_,ag,?_⟩)⟩;obtain⟨M,af⟩:=b A (.loop (rec' .busy)) c;have H:(A.putObj (w.heap.size+1) (.loop (rec' .busy))).heap[w.heap.size+1]?=some (.loop (rec' .busy)):=World.putObj_heap_same c;refine wpIn_mono (y _ i _ (R i _ _ ai M) hi) ?_;rintro e a3 C ⟨rfl,s,aj⟩;have E:w.heap.size+1<(A.putObj (w.heap.size+1) (.loop (rec' .busy))).heap.size:=(JK.1 H).1;have G:=(s.block (w.heap.size+1) E (λU=>by have:=hX _ U;omega)).trans H;have ae:=(s.block w.heap.size (by omega) (λU=>by have:=hX _ U;omega)).trans (af.trans hd);have q:w.heap.size+1<C.heap.size:=(JK.1 G).1;obtain⟨m,x⟩:=b C (.loop (rec' .ready)) q;have ad:(Instr.endRound (w.heap.size+1) none).run P C=.ok (.bool true) (C.putObj (w.heap.size+1) (.loop (rec' .ready))):=run_endRound (P:=P) none G;refine⟨_,_,ad,rfl,⟨R _ _ _ aj m,World.putObj_heap_same q,x.trans ae⟩,?_⟩;have s1:bg (λk=>k=w.heap.size+1\/X k) A (A.putObj (w.heap.size+1) (.loop (rec' .busy))):=
    ⟨M.size,λk _ Z=>World.putObj_heap_other (λe=>Z (.inl e))⟩
   have s3:bg (λk=>k=w.heap.size+1\/X k) C (C.putObj (w.heap.size+1) (.loop (rec' .ready))):=
    ⟨m.size,λk _ Z=>World.putObj_heap_other (λe=>Z (.inl e))⟩
   exact(s1.trans (s.mono (λ_ h=>.inr h))).trans s3
  ·rintro e T ⟨⟨v,rfl⟩,ak,z,hd⟩
   have c:w.heap.size+1<T.heap.size:=(JK.1 z).1;have L:(Instr.endLoop (w.heap.size+1)).run P T=.ok none (T.putObj (w.heap.size+1) (.loop (rec' .exhausted))):=run_endLoop (P:=P) z (by simp[rec']);obtain⟨m,x⟩:=b T (.loop (rec' .exhausted)) c;exact⟨none,_,L,u _ _ (JO _) (R _ _ _ ak m) (x.trans hd)⟩
end
section
open Go.ChangeShapes Go.Deep Go.WideShapes
section
variable {H : Type} {enc : TypeId × Value -> H} {P : Program} {w : World} {base : Nat} {spare : Nat -> Bool} {held : Bool}
theorem Ak {n:Int}(h:(Lit.int .u8 n).wf=true):0<=n/\n<256:=by
 have:=bounds_u8 h;omega
theorem Rd.of_cells {cs:List Value}{x:DataW H × List MemPlace}(j:P.underlying t=some (.slice e))(m:P.underlying e=some (.int .u8))(n:P.cellsOf e=1)
  (h:DataW.trod enc P w base spare held d t cs=some x):∃ v l,cs=[v]/\Rd w v l:=by
 rcases open_ints j m n h with⟨rfl,_⟩|⟨a,len,cap,zs,rfl,_,hl,hm,hz,_,hcell,hwz⟩
 ·exact⟨_,[],rfl,none,0,rfl,JO _,JW _,λ_=>rfl,λy f=>by cases f⟩
 ·have g:len<=zs.length:=by rw[hz];split <;> omega
  have b:((zs.take len).map λz=>UInt8.ofNat z.toNat).length=len:=by simp;omega
  refine⟨_,(zs.take len).map λz=>UInt8.ofNat z.toNat,rfl,some a,cap,by rw[b],by omega,hm,λh=>(by cases h),λy f i k=>?_⟩;cases f;rw[b] at k;rw[hcell i (by omega)];have c:i<zs.length:=by omega
  have o:=Ak (hwz (zs[i]'c) (Ko c));simp[JF,JG c];omega
theorem Rd.of_one {x:DataW H × List MemPlace}(b:P.underlying t=some (.slice e))(c:P.underlying e=some (.int .u8))(d:P.cellsOf e=1)
  (h:DataW.trod enc P w base spare held a t [v]=some x):∃ l,Rd w v l:=by
 obtain⟨f,l,e,h⟩:=Rd.of_cells b c d h;cases e;exact⟨l,h⟩
theorem ue {α:Type}[Inhabited α](n:Nat)(Q:Nat->α->Prop)(h:∀ i,i<n->∃ x,Q i x)(d:α):∃ l:List α,l.length=n/\∀ i,i<n->Q i (l.getD i d):=by
 induction n with
 | zero=>exact⟨[],rfl,λi b=>by omega⟩
 | succ n ih=>
  obtain⟨l,a,f⟩:=ih λi b=>h i (by omega)
  obtain⟨x,e⟩:=h n (by omega)
  refine⟨l++[x],by simp[a],λi b=>?_⟩
  rcases Nat.lt_or_ge i n with c|c
  ·rw[JF,Kt (by omega),<-JF]
   exact f i c
  ·have:i=n:=by omega
   subst this
   rw[JF,Kn (by omega),a,Mq]
   exact e
end
end
theorem fM (u v:Value)(l m:List UInt8)(w:World)(h:Rd w u l)(a:Rd w v m):
  Calls prog 29 #[u,v] w λe w'=>e=.returned (.bool (decide (l=m)))/\w=w':=by
 have c:=tA w 24 9 5 u l h underlying24 underlying5 underlying9;have b:=tA w 24 9 5 v m a underlying24 underlying5 underlying9;go_enter func29,ntmps29;go_wp2;go_ret;exact⟨by simp[Bool.beq_eq_decide_eq],rfl⟩
theorem info5:(prog.info? 5).map (λi=>(i.zero,i.size,i.bytes))=some (some (.int .u8 0),1,1):=by kernel_rfl
def Og:=@info5
theorem aj:U8 prog 24 5:=U8.mk' underlying24 Og
theorem BF (U:U8 P t e){g:Array Oper}{a:Act}{K:Act->World->Prop}{E:Prop}
  (O:o.guard=none) (s x:Operand) (u:o.op=Op.call { callee:=Callee.builtin Builtin.append,args:=#[s,x],argTypes:=#[t,t] })
  (B:Nat) (v:Value) (l:List UInt8) (L:a.eval s=v) (h:Ow e w B v l) (q:Addr) (n c:Nat) (m:List UInt8) (I:a.eval x=.slice (some q) n c) (C:Rd w (.slice (some q) n c) m)
  (D:l.length+m.length<=140737488355328) (f:B<=w.heap.size)
  (R:∀ p w',Ow e w' B p (l++m)->w.grownBy w' v.ownBlock->K (a.put o.dst p) w'):
  if Region.wanted o (yielded g a.tmps)=true then Oper.wp P o a w K Q else E:=by
 have J:Region.wanted o (yielded g a.tmps)=true:=by simp[Region.wanted,O]
 rw[if_pos J];obtain⟨i,N,r,d,A⟩:=U.hi;obtain⟨M,_,_⟩:=C.len;subst M;obtain⟨W,V,H,G,F,T,S⟩:=C;simp only[JR] at H;obtain⟨rfl,_,rfl⟩:=H;refine wp_append_own w s x t u B e i (.int .u8 0) 1 1 U.ht N r d A rfl (by decide) v l.length (Lib.byteCells l) L h q m.length c (Lib.byteCells m) I (by rw[cO];omega) (λj z y=>?_) (λz r=>?_) (by unfold maxLen;omega) (by omega) f
  (λp w' G F _=>R p w' (by unfold Ow;rw[JQ,mr];exact G) F)
 ·have k:j<m.length:=by
   have:=(Ks.1 y).1;rwa [cO] at this
  rw[gC m j k] at y;cases y;exact S q rfl j k
 ·obtain⟨b,_,rfl⟩:=KN.1 r
  rfl
def One (T:TypeId)(w:World)(p:Nat)(v:Value):Prop:=w.heap[p]?=some (.cells #[v] T (0,0))
theorem One.new (T:TypeId)(w:World)(v:Value):One T (w.alloc (.cells #[v] T)) w.heap.size v:=heap_alloc_new w _
def Oh:=@One.new
theorem One.lt (h:One T w p v):p<w.heap.size:=(JK.1 h).1
theorem One.cell (h:One T w p v):w.cell? ⟨p,0,none⟩=some v:=by
 rw[cell_of_row w p 0 _ T _ h];rfl
theorem One.frozen (h:One T w p v):w.frozen? ⟨p,0,none⟩=false:=by
 have a:=h;unfold One at a;simp[World.frozen?,a]
theorem One.kp (h:One T w p v)(k:Kp w w'):One T w' p v:=(k.block p h.lt).trans h
theorem One.set (h:One T w p v)(u:Value):One T (w.setCell ⟨p,0,none⟩ u) p u:=by
 have c:=h;unfold One at c ⊢;obtain⟨a,b⟩:=JK.1 c;simp[World.setCell,a,Mm,b]
def dD:Nat->(Nat->Bool)->Bool
 | 0,_=>true
 | n+1,p=>p n && dD n p
theorem dV {p:Nat->Bool}(h:dD n p=true):∀ i,i<n->p i=true:=by
 induction n with
 | zero=>intro i a;omega
 | succ n ih=>
  intro i a
  rw[dD,LV] at h
  by_cases e:i=n
  ·subst e;exact h.1
  ·exact ih h.2 i (by omega)
def xtN (x:Nat):Nat:=bif Nat.ble 256 (2*x) then (2*x) ^^^ 283 else 2*x
def eS:Nat->Nat->Nat->Nat->Nat
 | 0,out,_,_=>out
 | k+1,out,x,y=>eS k (bif Nat.beq (y % 2) 1 then out ^^^ x else out) (xtN x) (y / 2)
def gm (a b:Nat):Nat:=eS 8 0 a b
theorem xor_lt (b:x<256)(a:y<256):x ^^^ y<256:=Nat.xor_lt_two_pow (n:=8) b a
theorem Cu:dD 256 (λx=>Nat.ble (xtN x) 255)=true:=by decide +kernel
theorem pr (h:x<256):xtN x<256:=by
 have:=dV Cu x h;have:=LA this;omega
theorem Cv:dD 8 (λk=>dD 256 λx=>Nat.blt x (2 ^ k) || !(Nat.blt x (2 ^ (k+1))) || (Nat.beq x ((x - 2 ^ k) ^^^ 2 ^ k) && Nat.blt (x - 2 ^ k) (2 ^ k)))=true:=by decide +kernel
theorem Cw (k x:Nat)(d:k<8)(c:x<256)(f:2 ^ k<=x)(e:x<2 ^ (k+1)):x=(x - 2 ^ k) ^^^ 2 ^ k/\x - 2 ^ k<2 ^ k:=by
 have h:=dV (dV Cv k d) x c;have b:Nat.blt x (2 ^ k)=false:=by
  cases h3:Nat.blt x (2 ^ k)
  ·rfl
  ·have:=LA h3;omega
 have a:Nat.blt x (2 ^ (k+1))=true:=Nat.ble_eq_true_of_le e;simp only[b,a,Bool.not_true,Bool.or_false,Bool.false_or,LV] at h;exact⟨Li h.1,LA h.2⟩
theorem nD {f g:Nat->Nat}(d:∀ x y,x<256->y<256->f (x ^^^ y)=f x ^^^ f y)(c:∀ x y,x<256->y<256->g (x ^^^ y)=g x ^^^ g y)(h:∀ k,k<8->f (2 ^ k)=g (2 ^ k)):∀ x,x<256->f x=g x:=by
 have n:f 0=0:=by have:=d 0 0 (by omega) (by omega);simpa using this
 have m:g 0=0:=by have:=c 0 0 (by omega) (by omega);simpa using this
 have key:∀ k,k<=8->∀ x,x<2 ^ k->f x=g x:=by
  intro k;induction k with
  | zero=>
   intro _ x a;obtain rfl:x=0:=by simpa using a
   rw[n,m]
  | succ k ih=>
   intro l x a;have o:2 ^ (k+1)<=2 ^ 8:=Lm (by omega) l;by_cases b:x<2 ^ k
   ·exact ih (by omega) x b
   ·obtain⟨e,j⟩:=Cw k x (by omega) (by omega) (by omega) a
    have i:(2:Nat) ^ k<256:=by have:2 ^ k<2 ^ 8:=Nat.pow_lt_pow_right (by omega) (by omega);omega
    rw[e,d _ _ (by omega) i,c _ _ (by omega) i,ih (by omega) _ j,h k (by omega)]
 exact λx a=>key 8 (JO _) x a
theorem Cx:dD 256 (λx=>dD 256 λy=>Nat.beq (xtN (x ^^^ y)) (xtN x ^^^ xtN y))=true:=by decide +kernel
theorem Cy (b:x<256)(a:y<256):xtN (x ^^^ y)=xtN x ^^^ xtN y:=Li (dV (dV Cx x b) y a)
theorem vL (a b c d:Nat):(a ^^^ b) ^^^ (c ^^^ d)=(a ^^^ c) ^^^ (b ^^^ d):=by
 rw[MY,MY,<-MY b,Nat.xor_comm b c,MY]
theorem vM:∀ k out x y,out<256->x<256->eS k out x y<256
 | 0,_,_,_,h,_=>h
 | k+1,out,x,y,h,hx=>by
  refine vM k _ _ _ ?_ (pr hx)
  cases Nat.beq (y % 2) 1
  ·exact h
  ·exact xor_lt h hx
theorem vN:∀ k o1 o2 x1 x2 y,x1<256->x2<256->eS k (o1 ^^^ o2) (x1 ^^^ x2) y=eS k o1 x1 y ^^^ eS k o2 x2 y
 | 0,_,_,_,_,_,_,_=>rfl
 | k+1,o1,o2,x1,x2,y,h1,h2=>by
  show eS k (bif Nat.beq (y % 2) 1 then o1 ^^^ o2 ^^^ (x1 ^^^ x2) else o1 ^^^ o2) (xtN (x1 ^^^ x2)) (y / 2)=eS k (bif Nat.beq (y % 2) 1 then o1 ^^^ x1 else o1) (xtN x1) (y / 2) ^^^ eS k (bif Nat.beq (y % 2) 1 then o2 ^^^ x2 else o2) (xtN x2) (y / 2)
  rw[Cy h1 h2,<-vN k _ _ _ _ _ (pr h1) (pr h2)]
  cases Nat.beq (y % 2) 1
  ·rfl
  ·simp only[cond_true];rw[vL]
theorem Cz (y z:Nat):Nat.beq ((y ^^^ z) % 2) 1=xor (Nat.beq (y % 2) 1) (Nat.beq (z % 2) 1):=by
 have h:(y ^^^ z) % 2=(y % 2 ^^^ z % 2):=by
  have:=Nat.xor_mod_two_pow (a:=y) (b:=z) (n:=1);simpa using this
 rw[h];rcases Nat.mod_two_eq_zero_or_one y with d|d <;> rcases Nat.mod_two_eq_zero_or_one z with c|c <;> rw[d,c] <;> rfl
theorem CA (y z:Nat):(y ^^^ z) / 2=y / 2 ^^^ z / 2:=by
 have:=Nat.xor_div_two_pow (a:=y) (b:=z) (n:=1);simpa using this
theorem vO:∀ k o1 o2 x y z,eS k (o1 ^^^ o2) x (y ^^^ z)=eS k o1 x y ^^^ eS k o2 x z
 | 0,_,_,_,_,_=>rfl
 | k+1,o1,o2,x,y,z=>by
  show eS k (bif Nat.beq ((y ^^^ z) % 2) 1 then o1 ^^^ o2 ^^^ x else o1 ^^^ o2) (xtN x) ((y ^^^ z) / 2)=eS k (bif Nat.beq (y % 2) 1 then o1 ^^^ x else o1) (xtN x) (y / 2) ^^^ eS k (bif Nat.beq (z % 2) 1 then o2 ^^^ x else o2) (xtN x) (z / 2)
  rw[CA,Cz,<-vO]
  cases Nat.beq (y % 2) 1 <;> cases Nat.beq (z % 2) 1
  ·rfl
  ·simp only[Bool.false_xor,cond_true,cond_false];rw[MY]
  ·simp only[Bool.xor_false,cond_true,cond_false];rw[MY,MY,Nat.xor_comm o2 x]
  ·simp only[Bool.xor_self,cond_true,cond_false];rw[vL,NI,Nat.xor_zero]
theorem lH (c:a<256):gm a b<256:=vM 8 0 a b (by omega) c
theorem ku (a b c:Nat)(e:a<256)(d:b<256):gm (a ^^^ b) c=gm a c ^^^ gm b c:=by
 have:=vN 8 0 0 a b c e d;rwa [NI] at this
theorem jo (a b c:Nat):gm a (b ^^^ c)=gm a b ^^^ gm a c:=by
 have:=vO 8 0 0 a b c;rwa [NI] at this
theorem CB:dD 8 (λi=>dD 8 λj=>Nat.beq (gm (2 ^ i) (2 ^ j)) (gm (2 ^ j) (2 ^ i)))=true:=by decide +kernel
theorem CC (h:k<8):2 ^ k<256:=by have:2 ^ k<2 ^ 8:=Nat.pow_lt_pow_right (by omega) h;omega
theorem nE (l:a<256)(k:b<256):gm a b=gm b a:=by
 refine nD (f:=λx=>gm x b) (g:=λx=>gm b x) (λx y d c=>ku x y b d c) (λx y _ _=>jo b x y) (λi h=>?_) a l;refine nD (f:=λx=>gm (2 ^ i) x) (g:=λx=>gm x (2 ^ i)) (λx y _ _=>jo _ x y) (λx y d c=>ku x y _ d c) (λj e=>?_) b k;exact Li (dV (dV CB i h) j e)
theorem CE:dD 8 (λi=>dD 8 λj=>dD 8 λk=>Nat.beq (gm (gm (2 ^ i) (2 ^ j)) (2 ^ k)) (gm (2 ^ i) (gm (2 ^ j) (2 ^ k))))=true:=by decide +kernel
theorem vP (q:a<256)(p:b<256)(o:c<256):gm (gm a b) c=gm a (gm b c):=by
 refine nD (f:=λx=>gm (gm x b) c) (g:=λx=>gm x (gm b c)) (λx y e d=>by show gm (gm (x ^^^ y) b) c=_;rw[ku x y b e d,ku _ _ c (lH e) (lH d)]) (λx y e d=>ku x y _ e d) (λi h=>?_) a q;have l:=CC h;refine nD (f:=λx=>gm (gm (2 ^ i) x) c) (g:=λx=>gm (2 ^ i) (gm x c)) (λx y e d=>by show gm (gm _ (x ^^^ y)) c=_;rw[jo,ku _ _ c (lH l) (lH l)]) (λx y e d=>by show gm _ (gm (x ^^^ y) c)=_;rw[ku x y c e d,jo]) (λj n=>?_) b p;refine nD (f:=λx=>gm (gm (2 ^ i) (2 ^ j)) x) (g:=λx=>gm (2 ^ i) (gm (2 ^ j) x)) (λx y _ _=>jo _ x y) (λx y _ _=>by show gm _ (gm _ (x ^^^ y))=_;rw[jo,jo]) (λk m=>?_) c o;exact Li (dV (dV (dV CE i h) j n) k m)
theorem CF:dD 256 (λx=>Nat.beq (gm x 1) x)=true:=by decide +kernel
theorem nG (b:a<256):gm a 1=a:=Li (dV CF a b)
theorem vQ (a:Nat):gm a 0=0:=by have:=jo a 0 0;rwa [NI,NI] at this
def fi (a:Nat):Nat:=
 let a2:=gm a a;let a3:=gm a2 a;let a6:=gm a3 a3;let a12:=gm a6 a6;let a15:=gm a12 a3;let a30:=gm a15 a15;let a60:=gm a30 a30;let a63:=gm a60 a3
 let a126:=gm a63 a63;let a127:=gm a126 a;gm a127 a127
theorem vR:dD 256 (λx=>Nat.ble (fi x) 255 && (Nat.beq x 0 || (Nat.beq (gm x (fi x)) 1 && Nat.ble 1 (fi x))))=true:=by decide +kernel
theorem vT (b:a<256):fi a<256:=by
 have:=dV vR a b;rw[LV] at this;have:=LA this.1;omega
theorem CG (c:a<256)(e:a≠0):gm a (fi a)=1/\fi a≠0:=by
 have h:=dV vR a c;rw[LV,ND,LV] at h;rcases h.2 with b|⟨b,d⟩
 ·exact absurd (Li b) e
 ·exact⟨Li b,by have:=LA d;omega⟩
theorem CH:fi 0=0:=by decide +kernel
theorem CI (c:a<256)(d:b<256)(h:gm a b=1):b=fi a:=by
 have f:a≠0:=by
  rintro rfl;rw[nE c d,vQ] at h;omega
 have e:=vT c;calc b=gm b 1:=(nG d).symm
  _=gm b (gm a (fi a)):=by rw[(CG c f).1]
  _=gm (gm b a) (fi a):=(vP d c e).symm
  _=gm 1 (fi a):=by rw[nE d c,h]
  _=gm (fi a) 1:=nE (by omega) e
  _=fi a:=nG e
def dk (x n:Nat):Nat:=(x*2 ^ n) % 256 ^^^ x / 2 ^ (8 - n)
def fZ (y:Nat):Nat:=y ^^^ dk y 1 ^^^ dk y 2 ^^^ dk y 3 ^^^ dk y 4 ^^^ 99
def nH (x:Nat):Nat:=fZ (fi x)
theorem vU:dD 256 (λx=>Nat.ble (fZ x) 255 && dD x (λy=>!(Nat.beq (fZ x) (fZ y))))=true:=by decide +kernel
theorem CJ (b:a<256):nH a<256:=by
 have h:=dV vU (fi a) (vT b);rw[LV] at h;have:=LA h.1;unfold nH;omega
def bd (a b:UInt8):UInt8:=UInt8.ofNat (gm a.toNat b.toNat)
def bY (x:UInt8):UInt8:=UInt8.ofNat (nH x.toNat)
theorem dx (a:UInt8):a.toNat<256:=a.toNat_lt
theorem jp (a b:UInt8):(bd a b).toNat=gm a.toNat b.toNat:=by
 unfold bd;rw[Mb,Lo (lH (dx a))]
theorem vV (a:UInt8):(bY a).toNat=nH a.toNat:=by
 unfold bY;rw[Mb,Lo (CJ (dx a))]
theorem jP {a b:UInt8}(h:a.toNat=b.toNat):a=b:=UInt8.toNat_inj.1 h
theorem rN (a b:UInt8):bd a b=bd b a:=jP (by rw[jp,jp,nE (dx a) (dx b)])
theorem rO (a b c:UInt8):bd a (b ^^^ c)=bd a b ^^^ bd a c:=jP (by rw[jp,NF,NF,jp,jp,jo])
theorem CK (a b c:UInt8):bd (a ^^^ b) c=bd a c ^^^ bd b c:=by rw[rN,rO,rN c a,rN c b]
theorem vW (a:UInt8):bd a 1=a:=jP (by rw[jp];exact nG (dx a))
def ez (a b c d:UInt8):UInt8:=bd a 2 ^^^ bd b 3 ^^^ c ^^^ d
def tab (n:Nat)(f:Nat->UInt8):List UInt8:=(List.range n).map f
theorem ft (n:Nat)(f:Nat->UInt8):(tab n f).length=n:=by simp[tab]
theorem iT (n:Nat)(f:Nat->UInt8)(i:Nat)(h:i<n):(tab n f).getD i 0=f i:=by simp[tab,JF,h]
theorem vX (n:Nat)(l:List UInt8)(h:l.length=n):tab n (λi=>l.getD i 0)=l:=by
 apply ML
 ·rw[ft,h]
 ·intro i a b
  have:=iT n (λi=>l.getD i 0) i (by rw[ft] at a;exact a);rw[JF,JG a] at this;simp only[Mt] at this;rw[this,JF,JG b];rfl
theorem lI (n:Nat)(l m:List UInt8)(c:l.length=n)(b:m.length=n)(h:∀ i,i<n->l.getD i 0=m.getD i 0):l=m:=by
 rw[<-vX n l c,<-vX n m b];unfold tab;apply Ni;intro i a;exact h i (by simpa using a)
def jQ (m:Nat):Nat:=4*((m / 4+m % 4) % 4)+m % 4
def cT (s:List UInt8):List UInt8:=tab 16 λm=>bY (s.getD (jQ m) 0)
def at4 (t:List UInt8)(m k:Nat):UInt8:=t.getD (4*(m / 4)+(m % 4+k) % 4) 0
def dE (t:List UInt8):List UInt8:=tab 16 λm=>ez (at4 t m 0) (at4 t m 1) (at4 t m 2) (at4 t m 3)
def dW (s w:List UInt8)(n:Nat):List UInt8:=tab 16 λi=>s.getD i 0 ^^^ w.getD (16*n+i) 0
def rP (w s:List UInt8)(n:Nat):List UInt8:=dW (if n<10 then dE (cT s) else cT s) w n
def dF (w b:List UInt8):Nat->List UInt8
 | 0=>dW b w 0
 | n+1=>rP w (dF w b n) (n+1)
def eA (w b:List UInt8):List UInt8:=dF w b 10
theorem vY (s w:List UInt8)(n:Nat):(dW s w n).length=16:=ft _ _
theorem rQ (w b:List UInt8)(n:Nat):(dF w b n).length=16:=by
 cases n with
 | zero=>exact vY _ _ _
 | succ n=>exact vY _ _ _
theorem rR (w b:List UInt8):(eA w b).length=16:=rQ _ _ _
def eB:Nat->UInt8
 | 0=>1
 | n+1=>bd (eB n) 2
def fu (w:List UInt8):UInt8:=
 let m:=w.length;let i:=m / 4;let k:=m % 4
 let x:=if i % 4=0 then bY (w.getD (4*i - 4+(k+1) % 4) 0) else w.getD (4*i - 4+k) 0
 let x:=if i % 4=0/\k=0 then x ^^^ eB (i / 4 - 1) else x
 w.getD (4*i - 16+k) 0 ^^^ x
def dM (key:List UInt8):Nat->List UInt8
 | 0=>key
 | n+1=>dM key n++[fu (dM key n)]
def cU (key:List UInt8):List UInt8:=dM key 160
theorem kx (key:List UInt8):∀ n,(dM key n).length=key.length+n
 | 0=>rfl
 | n+1=>by rw[dM,JQ,kx key n];rfl
def ba (B:Nat)(v:Value):Prop:=∀ g,v.ownBlock=some g->B<=g
theorem ba.nil (B n c:Nat):ba B (.slice none n c):=λg h=>by cases h
theorem ba.mono {C:Nat}(h:ba B v)(b:C<=B):ba C v:=λg a=>Kd b (h g a)
theorem ba.kp (h:ba w'.heap.size v)(k:Kp w w'):ba w.heap.size v:=h.mono k.size
theorem xZ (x y:Nat)(b:x<1024)(a:y<1024):bits .xor .i64 (x:Int) (y:Int)=((x ^^^ y:Nat):Int):=by
 have c:x ^^^ y<1024:=Nat.xor_lt_two_pow (n:=10) b a;change IntKind.i64.wrap (((BitVec.ofInt 64 (x:Int) ^^^ BitVec.ofInt 64 (y:Int)).toNat:Nat):Int)=_;rw[Ls,Ls,BitVec.toNat_xor,Ma,Ma,Lo (by omega),Lo (by omega),zG _ (by omega) (by omega)]
theorem pV (a b:UInt8)(w:World):Calls prog 228 #[.int .u8 (a.toNat:Int),.int .u8 (b.toNat:Int)] w λe w'=>e=.returned (.int .u8 ((bd a b).toNat:Int))/\w=w':=by
 have I:=dx a;have v:=dx b;have C:=jp a b;obtain⟨A,P⟩:∃ A,a.toNat=A:=⟨_,rfl⟩;obtain⟨B,N⟩:∃ B,b.toNat=B:=⟨_,rfl⟩;rw[P] at I C ⊢;rw[N] at v C ⊢;have S:Hid (eS 8 0 A B=gm A B):=rfl;have R:=JE C;clear P N C;go_enter func228,ntmps228;go_wp2_with fail;go_loopw[5,6,7,8] (λo x y p wr=>(∃ (i O X Y:Nat),i<=8/\p=.int .i64 i/\o=.int .i64 O/\x=.int .i64 X/\y=.int .i64 Y/\O<256/\X<256/\Y<256/\eS (8 - i) O X Y=gm A B)/\w=wr) (λ_ _ _ p _=>8 - (intOf p).toNat)
 case atStart=>exact⟨⟨0,0,A,B,by omega,rfl,rfl,rfl,rfl,by omega,I,v,S.out⟩,rfl⟩
 case round=>
  obtain⟨⟨i,O,X,Y,W,rfl,rfl,rfl,rfl,G,K,hY,f⟩,rfl⟩:=hrel;by_cases Q:i<8
  ·have U:(i:Int)<8:=by omega
   have j:eS (8 - (i+1)) (bif Nat.beq (Y % 2) 1 then O ^^^ X else O) (xtN X) (Y / 2)=gm A B:=by
    rw[show 8 - i=(8 - (i+1))+1 by omega] at f;exact f
   have k:=pr K;have D:=xZ O X (by omega) (by omega);have m:=xZ (2*X) 283 (by omega) (by omega);have s:=xor_lt G K;have c:xtN X=(bif Nat.ble 256 (2*X) then (2*X) ^^^ 283 else 2*X):=rfl;obtain⟨Z,J⟩:∃ Z,O ^^^ X=Z:=⟨_,rfl⟩;obtain⟨V,L⟩:∃ V,(2*X) ^^^ 283=V:=⟨_,rfl⟩;obtain⟨T,M⟩:∃ T,xtN X=T:=⟨_,rfl⟩;rw[J] at j D s;rw[L] at m c;rw[M] at j k c;rw[LB] at m;have H:bits .xor .i64 (2*(X:Int)) 283=(V:Int):=m;clear m J L M f;have g:((Y / 2:Nat):Int)=(Y:Int) / 2:=by omega
   by_cases v:256<=2*X
   ·have l:Nat.ble 256 (2*X)=true:=Nat.ble_eq_true_of_le v
    rw[l] at c;have r:T=V:=c;subst r;have E:255<2*(X:Int):=by omega
    have z:=JE j;clear j c l;by_cases q:Y % 2=1
    ·have n:(Y:Int) % 2=1:=by omega
     have d:Nat.beq (Y % 2) 1=true:=by rw[q];rfl
     have t:=JE d;clear d q;go_wp2_with fail;go_roundw
     case rel=>exact⟨⟨i+1,Z,T,Y / 2,by omega,by go_num,rfl,rfl,by rw[g],s,k,by omega,by have:=z.out;rw[t.out] at this;exact this⟩,trivial⟩
     case measure=>simp[intOf];omega
    ·have n:(Y:Int) % 2=0:=by omega
     have d:Nat.beq (Y % 2) 1=false:=by rw[show Y % 2=0 by omega];rfl
     have t:=JE d;clear d q;go_wp2_with fail;go_roundw
     case rel=>exact⟨⟨i+1,O,T,Y / 2,by omega,by go_num,rfl,rfl,by rw[g],G,k,by omega,by have:=z.out;rw[t.out] at this;exact this⟩,trivial⟩
     case measure=>simp[intOf];omega
   ·have l:Nat.ble 256 (2*X)=false:=by
     cases h:Nat.ble 256 (2*X)
     ·rfl
     ·exact absurd (LA h) v
    rw[l] at c;have r:T=2*X:=c;subst r;have E:¬255<2*(X:Int):=by omega
    have z:=JE j;clear j c l;by_cases q:Y % 2=1
    ·have n:(Y:Int) % 2=1:=by omega
     have d:Nat.beq (Y % 2) 1=true:=by rw[q];rfl
     have t:=JE d;clear d q;go_wp2_with fail;go_roundw
     case rel=>exact⟨⟨i+1,Z,2*X,Y / 2,by omega,by go_num,rfl,by rw[LB];rfl,by rw[g],s,k,by omega,by have:=z.out;rw[t.out] at this;exact this⟩,trivial⟩
     case measure=>simp[intOf];omega
    ·have n:(Y:Int) % 2=0:=by omega
     have d:Nat.beq (Y % 2) 1=false:=by rw[show Y % 2=0 by omega];rfl
     have t:=JE d;clear d q;go_wp2_with fail;go_roundw
     case rel=>exact⟨⟨i+1,O,2*X,Y / 2,by omega,by go_num,rfl,by rw[LB];rfl,by rw[g],G,k,by omega,by have:=z.out;rw[t.out] at this;exact this⟩,trivial⟩
     case measure=>simp[intOf];omega
  ·obtain rfl:i=8:=by omega
   have F:O=gm A B:=f;have u:IntKind.u8.wrap (O:Int)=(O:Int):=by rw[LC];omega
   rw[F] at u;go_wp2_with fail;go_ret;refine⟨?_,rfl⟩;simp[R.out,u]
theorem EO:dD 9 (λn=>dD 256 λx=>Nat.beq n 0 || (Nat.beq ((x*2 ^ n) % 256 ||| x / 2 ^ (8 - n)) (dk x n) && Nat.ble (dk x n) 255))=true:=by decide +kernel
theorem od (d:0<n)(c:n<9)(b:x<256):(x*2 ^ n) % 256 ||| x / 2 ^ (8 - n)=dk x n/\dk x n<256:=by
 have h:=dV (dV EO n c) x b;have a:Nat.beq n 0=false:=by cases n with|zero=>omega|succ n=>rfl
 rw[a,Bool.false_or,LV] at h;have:=LA h.2;exact⟨Li h.1,by omega⟩
theorem ya (x:Nat)(h:x<256):IntKind.u8.wrap (x:Int)=x:=by rw[LC];omega
theorem yb (x y:Nat)(c:x<256)(b:y<256):bits .or .u8 (x:Int) (y:Int)=((x ||| y:Nat):Int):=by
 have a:x ||| y<256:=Nat.or_lt_two_pow (n:=8) c b
 change IntKind.u8.wrap (((BitVec.ofInt 8 (x:Int) ||| BitVec.ofInt 8 (y:Int)).toNat:Nat):Int)=_;rw[Ls,Ls,BitVec.toNat_or,Ma,Ma,Lo c,Lo b,ya _ a]
theorem kN (x y:Nat)(c:x<256)(b:y<256):bits .xor .u8 (x:Int) (y:Int)=((x ^^^ y:Nat):Int):=by
 have a:x ^^^ y<256:=xor_lt c b;change IntKind.u8.wrap (((BitVec.ofInt 8 (x:Int) ^^^ BitVec.ofInt 8 (y:Int)).toNat:Nat):Int)=_;rw[Ls,Ls,BitVec.toNat_xor,Ma,Ma,Lo c,Lo b,ya _ a]
theorem pW (i x:Nat)(w:World)(n:0<i)(o:i<8)(d:x<256):
  Calls prog 259 #[.int .u8 (x:Int),.int .u8 i] w λe w'=>e=.returned (.int .u8 ((dk x i:Nat):Int))/\w=w':=by
 have p:IntKind.u8.wrap (8 - (i:Int))=8 - i:=by rw[LC];omega
 have q:(8 - (i:Int)).toNat=8 - i:=by omega
 obtain⟨a,b⟩:=od n (by omega) d;obtain⟨L,k⟩:∃ L,dk x i=L:=⟨_,rfl⟩;rw[k] at a b ⊢;have g:(x:Int)*2 ^ i=((x*2 ^ i:Nat):Int):=by rw[LB,No];rfl
 have l:(x:Int) / 2 ^ (8 - i)=((x / 2 ^ (8 - i):Nat):Int):=by rw[Nz,No];rfl
 have m:IntKind.u8.wrap ((x:Int)*2 ^ i)=((x*2 ^ i % 256:Nat):Int):=by rw[g,LC];omega
 have f:x / 2 ^ (8 - i)<256:=MQ (Nm _ _) d;have c:=yb (x*2 ^ i % 256) (x / 2 ^ (8 - i)) (by omega) f;rw[a] at c;obtain⟨P,j⟩:∃ P,x*2 ^ i % 256=P:=⟨_,rfl⟩;obtain⟨Q,h⟩:∃ Q,x / 2 ^ (8 - i)=Q:=⟨_,rfl⟩;rw[j] at m c;rw[h] at l c;clear a g j h k f;go_enter func259,ntmps259;go_wp2;go_ret;exact⟨rfl,rfl⟩
theorem EP (x:Nat)(w:World)(a:x<256):
  Calls prog 227 #[.int .u8 (x:Int)] w λe w'=>e=.returned (.int .u8 ((fZ x:Nat):Int))/\w=w':=by
 have i:=(od (n:=1) (by omega) (by omega) a).2;have h:=(od (n:=2) (by omega) (by omega) a).2;have g:=(od (n:=3) (by omega) (by omega) a).2;have f:=(od (n:=4) (by omega) (by omega) a).2;have I:=pW 1 x w (by omega) (by omega) a;have H:=pW 2 x w (by omega) (by omega) a;have G:=pW 3 x w (by omega) (by omega) a;have F:=pW 4 x w (by omega) (by omega) a;have c:x ^^^ dk x 1 ^^^ dk x 2 ^^^ dk x 3 ^^^ dk x 4 ^^^ 99=fZ x:=rfl;obtain⟨A,E⟩:∃ A,dk x 1=A:=⟨_,rfl⟩;obtain⟨B,z⟩:∃ B,dk x 2=B:=⟨_,rfl⟩;obtain⟨C,y⟩:∃ C,dk x 3=C:=⟨_,rfl⟩;obtain⟨D,v⟩:∃ D,dk x 4=D:=⟨_,rfl⟩;obtain⟨T,u⟩:∃ T,fZ x=T:=⟨_,rfl⟩;rw[E] at i I c;rw[z] at h H c;rw[y] at g G c;rw[v] at f F c;rw[u] at c ⊢;clear E z y v u;have K:=kN x A a i;have l:=xor_lt a i;have p:=kN (x ^^^ A) B l h;have k:=xor_lt l h;have m:=kN (x ^^^ A ^^^ B) C k g;have j:=xor_lt k g;have d:=kN (x ^^^ A ^^^ B ^^^ C) D j f;have o:=xor_lt j f;have b:=kN (x ^^^ A ^^^ B ^^^ C ^^^ D) 99 o (by omega);rw[c] at b;clear l k j o i h g f c;obtain⟨U,t⟩:∃ U,x ^^^ A=U:=⟨_,rfl⟩;rw[t] at K p m d b;obtain⟨V,s⟩:∃ V,U ^^^ B=V:=⟨_,rfl⟩;rw[s] at p m d b;obtain⟨W,r⟩:∃ W,V ^^^ C=W:=⟨_,rfl⟩;rw[r] at m d b;obtain⟨X,q⟩:∃ X,W ^^^ D=X:=⟨_,rfl⟩;rw[q] at d b;have J:bits .xor .u8 (X:Int) 99=(T:Int):=b;clear b t s r q;go_enter func227,ntmps227;go_wp2_with fail;refine I.mono ?_;rintro _ _ ⟨rfl,rfl⟩;go_wp2_with fail;refine H.mono ?_;rintro _ _ ⟨rfl,rfl⟩;go_wp2_with fail;refine G.mono ?_;rintro _ _ ⟨rfl,rfl⟩;go_wp2_with fail;refine F.mono ?_;rintro _ _ ⟨rfl,rfl⟩;go_wp2_with fail;go_ret;exact⟨rfl,rfl⟩
def aV:Nat->Nat
 | 0=>1
 | i+1=>gm (aV i) 3
theorem gX:∀ i,aV i<256
 | 0=>by decide
 | i+1=>lH (gX i)
theorem sR (i:Nat):∀ j,aV (i+j)=gm (aV i) (aV j)
 | 0=>by
  show aV i=gm (aV i) 1
  rw[nG (gX i)]
 | j+1=>by
  show gm (aV (i+j)) 3=gm (aV i) (gm (aV j) 3)
  rw[sR i j,vP (gX i) (gX j) (by omega)]
theorem yc:aV 255=1:=by decide +kernel
theorem ER (h:i<255):fi (aV i)=aV ((255 - i) % 255):=by
 refine(CI (gX i) (gX _) ?_).symm;by_cases a:i=0
 ·subst a
  show gm 1 (aV 0)=1
  exact nG (by omega)
 ·rw[Lo (by omega),<-sR,show i+(255 - i)=255 by omega,yc]
def pX:Nat->Nat->Nat->Bool
 | 0,_,_=>false
 | n+1,c,x=>Nat.beq c x || pX n (gm c 3) x
theorem yd (x:Nat):∀ n i,pX n (aV i) x=true->∃ j,j<i+n/\aV j=x
 | 0,i,h=>by cases h
 | n+1,i,h=>by
  rw[pX,ND] at h
  rcases h with h|h
  ·exact⟨i,by omega,Li h⟩
  ·obtain⟨j,h1,h2⟩:=yd x n (i+1) h
   exact⟨j,by omega,h2⟩
theorem ES:dD 256 (λx=>Nat.beq x 0 || pX 255 1 x)=true:=by decide +kernel
theorem ET (h:x<256)(c:x≠0):∃ i,i<255/\aV i=x:=by
 have:=dV ES x h;rw[ND] at this;rcases this with a|a
 ·exact absurd (Li a) c
 ·obtain⟨j,a,b⟩:=yd x 255 0 a
  exact⟨j,by omega,b⟩
def p3B (i:Nat):UInt8:=UInt8.ofNat (aV i)
theorem lY (i:Nat):(p3B i).toNat=aV i:=by
 unfold p3B;rw[Mb];have:=gX i;omega
theorem ye (i:Nat):p3B (i+1)=bd (p3B i) 3:=jP (by rw[jp,lY,lY];rfl)
def cN (x:UInt8):UInt8:=UInt8.ofNat (fZ x.toNat)
theorem EU (h:x<256):fZ x<256:=by
 have:=dV vU x h;rw[LV] at this;have:=LA this.1;omega
theorem pY (x:UInt8):(cN x).toNat=fZ x.toNat:=by
 unfold cN;rw[Mb];have:=EU (dx x);omega
theorem EV (h:i<255):cN (p3B ((255 - i) % 255))=bY (p3B i):=jP (by rw[pY,vV,lY,lY,nH,ER h])
theorem EW:cN 0=bY 0:=jP (by rw[pY,vV];show fZ 0=fZ (fi 0);rw[CH])
def fH (k:Nat)(l:List UInt8):Prop:=l.length=256/\l.getD 0 0=bY 0/\∀ i,i<k->l.getD (aV i) 0=bY (p3B i)
theorem EX (h:i<255):aV i≠0:=λb=>by
 have a:gm (aV i) (aV (255 - i))=1:=by rw[<-sR,show i+(255 - i)=255 by omega,yc]
 rw[b,nE (by omega) (gX _),vQ] at a;cases a
theorem fH.begin:fH 0 ((List.replicate 256 (0:UInt8)).set 0 (cN 0)):=⟨by rw[Km,Lb],by rw[<-EW];rfl,λi h=>by omega⟩
theorem fH.next (h:fH k l)(c:k<255):fH (k+1) (l.set (aV k) (cN (p3B ((255 - k) % 255)))):=by
 obtain⟨d,n,m⟩:=h;have f:=gX k;have g:=EX c;rw[EV c];have a:∀ j,(l.set (aV k) (bY (p3B k))).getD j 0=if j=aV k then bY (p3B k) else l.getD j 0:=λj=>by
  by_cases e:j=aV k
  ·subst e
   simp[JF,d,f]
  ·rw[if_neg e]
   simp[JF,MX,NK e]
 refine⟨by simp[d],by rw[a,if_neg (NK g),n],λi o=>?_⟩;rw[a];by_cases e:aV i=aV k
 ·rw[if_pos e]
  unfold p3B;rw[e]
 ·rw[if_neg e]
  by_cases b:i=k
  ·subst b;exact absurd rfl e
  ·exact m i (by omega)
def fQ:List UInt8:=tab 256 λi=>bY (UInt8.ofNat i)
theorem og:fQ.length=256:=ft _ _
theorem pZ (x:UInt8):fQ.getD x.toNat 0=bY x:=by
 have h:=iT 256 (λi=>bY (UInt8.ofNat i)) x.toNat (dx x);have e:UInt8.ofNat x.toNat=x:=jP (by rw[Mb];have:=dx x;omega);exact h.trans (by simp only[e])
theorem fH.all (h:fH 255 l):l=fQ:=by
 obtain⟨g,f,e⟩:=h;refine lI 256 _ _ g og λi a=>?_
 have c:fQ.getD i 0=bY (UInt8.ofNat i):=iT 256 (λi=>bY (UInt8.ofNat i)) i a;rw[c];by_cases b:i=0
 ·subst b;exact f
 ·obtain⟨j,d,rfl⟩:=ET a b
  exact e j d
theorem cz (x y:UInt8):bits .xor .u8 (x.toNat:Int) (y.toNat:Int)=((x ^^^ y).toNat:Int):=by
 rw[kN _ _ (dx x) (dx y),NF]
theorem Fa:dD 256 (λx=>Nat.beq ((x*2) % 256 ^^^ (x / 128)*27) (gm x 2))=true:=by decide +kernel
theorem lZ (x:UInt8)(w:World):Calls prog 240 #[.int .u8 (x.toNat:Int)] w λe w'=>e=.returned (.int .u8 ((bd x 2).toNat:Int))/\w=w':=by
 have b:=dx x;have h:=Li (dV Fa x.toNat b);have i:IntKind.u8.wrap ((x.toNat:Int)*2)=((x.toNat*2 % 256:Nat):Int):=by rw[LC];omega
 have g:(x.toNat:Int) / 128=((x.toNat / 128:Nat):Int):=by omega
 have f:IntKind.u8.wrap (((x.toNat / 128:Nat):Int)*27)=((x.toNat / 128*27:Nat):Int):=by rw[LC];omega
 have c:=kN (x.toNat*2 % 256) (x.toNat / 128*27) (by omega) (by omega);rw[h] at c;have a:=jp x 2;rw[show(2:UInt8).toNat=2 from rfl] at a;rw[<-a] at c;generalize (bd x 2).toNat=M at *;generalize x.toNat*2 % 256=A at *;generalize d:x.toNat / 128=B at *;generalize B*27=C at *;generalize x.toNat=X at *;clear h a b d;go_enter func240,ntmps240;go_wp2;go_ret;exact⟨rfl,rfl⟩
theorem Fb:dD 5 (λn=>dD 256 λx=>Nat.beq ((x*2 ^ n) % 256 ||| x / 2 ^ (8 - n)) ((x*2 ^ n) % 256 ^^^ x / 2 ^ (8 - n)))=true:=by decide +kernel
def jv (x:UInt8)(n:Nat):UInt8:=UInt8.ofNat (dk x.toNat n)
theorem Fc (x:UInt8)(n:Nat):dk x.toNat n<256:=xor_lt (Nat.mod_lt _ (by omega)) (MQ (Nm _ _) (dx x))
theorem yi (x:UInt8)(n:Nat):(jv x n).toNat=dk x.toNat n:=by
 unfold jv;rw[Mb,Lo (Fc x n)]
theorem Fd (x:Int)(b:0<=x)(a:x<2 ^ 64):bits .and .u64 x 7=x % 8:=
 bits_mask .u64 64 (by decide) (λn b a=>by simp[IntKind.wrap,IntKind.bits,IntKind.signed];omega) 3 (by decide) x b a
theorem Fe (x:UInt8)(i:Nat)(w:World)(m:i<5):
  Calls prog 270 #[.int .u8 (x.toNat:Int),.int .i64 i] w λe w'=>e=.returned (.int .u8 ((jv x i).toNat:Int))/\w=w':=by
 have c:=dx x;have j:=yi x i;have a:=Li (dV (dV Fb i m) x.toNat c);rw[show(x.toNat*2 ^ i) % 256 ^^^ x.toNat / 2 ^ (8 - i)=dk x.toNat i from rfl,<-j] at a;generalize (jv x i).toNat=L at *;generalize x.toNat=X at *;have o:IntKind.u64.wrap (i:Int)=i:=by simp[IntKind.wrap,IntKind.bits,IntKind.signed];omega
 have w2:=Fd (i:Int) (by omega) (by omega);rw[show(i:Int) % 8=i by omega] at w2;have n:IntKind.u64.wrap (8 - (i:Int))=8 - i:=by simp[IntKind.wrap,IntKind.bits,IntKind.signed];omega
 have p:(8 - (i:Int)).toNat=8 - i:=by omega
 have f:(X:Int)*2 ^ i=((X*2 ^ i:Nat):Int):=by rw[LB,No];rfl
 have k:(X:Int) / 2 ^ (8 - i)=((X / 2 ^ (8 - i):Nat):Int):=by rw[Nz,No];rfl
 have l:IntKind.u8.wrap ((X:Int)*2 ^ i)=((X*2 ^ i % 256:Nat):Int):=by rw[f,LC];omega
 have d:X / 2 ^ (8 - i)<256:=MQ (Nm _ _) c;have b:=yb (X*2 ^ i % 256) (X / 2 ^ (8 - i)) (by omega) d;rw[a] at b;obtain⟨P,h⟩:∃ P,X*2 ^ i % 256=P:=⟨_,rfl⟩;obtain⟨Q,g⟩:∃ Q,X / 2 ^ (8 - i)=Q:=⟨_,rfl⟩;rw[h] at l b;rw[g] at k b;clear a f h g j d;go_enter func270,ntmps270;go_wp2;go_ret;exact⟨rfl,rfl⟩
def jw (y:UInt8):Nat->UInt8
 | 0=>99
 | n+1=>jw y n ^^^ jv y n
theorem Ff:dD 256 (λx=>Nat.beq (99 ^^^ dk x 0 ^^^ dk x 1 ^^^ dk x 2 ^^^ dk x 3 ^^^ dk x 4) (fZ x))=true:=by decide +kernel
theorem Fg (y:UInt8):jw y 5=cN y:=by
 apply jP;rw[pY];simp only[jw,NF,yi];exact Li (dV Ff y.toNat (dx y))
theorem yj (y:UInt8)(w:World):Calls prog 263 #[.int .u8 (y.toNat:Int)] w λe w'=>e=.returned (.int .u8 ((cN y).toNat:Int))/\w=w':=by
 have d:=JE (Fg y);go_enter func263,ntmps263;go_wp2_with fail;go_loopw[3,5] (λo p wr=>(∃ (i:Nat),i<=5/\p=.int .i64 i/\o=.int .u8 ((jw y i).toNat:Int))/\w=wr) (λ_ p _=>5 - (intOf p).toNat)
 case atStart=>exact⟨⟨0,by omega,rfl,rfl⟩,rfl⟩
 case round=>
  obtain⟨⟨i,h,rfl,rfl⟩,rfl⟩:=hrel;by_cases a:i<5
  ·have g:(i:Int)<5:=by omega
   have f:=cz (jw y i) (jv y i);have b:=Fe y i w a;have c:Hid (jw y i ^^^ jv y i=jw y (i+1)):=rfl;generalize jw y i ^^^ jv y i=Z at *;generalize jw y i=U at *;generalize jv y i=V at *;go_wp2_with(go_at_call 270;refine b.mono ?_;rintro _ _ ⟨rfl,rfl⟩)
   go_roundw
   case rel=>exact⟨⟨i+1,by omega,by go_num,by rw[c.out]⟩,trivial⟩
   case measure=>simp[intOf];omega
  ·obtain rfl:i=5:=by omega
   rw[d.out];go_wp2_with fail;go_ret;exact⟨rfl,rfl⟩

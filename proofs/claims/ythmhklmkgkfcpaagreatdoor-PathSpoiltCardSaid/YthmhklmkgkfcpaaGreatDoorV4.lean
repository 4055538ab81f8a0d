import Derived.Test.YthmhklmkgkfcpaaGreatDoorV3
import Derived.Lib.SmallJoins
set_option linter.all false
set_option maxHeartbeats 8000000
set_option maxRecDepth 100000
namespace Go.Proofs.YthmhklmkgkfcpaaGreatDoor
open Go.Proofs.Tryz Go.RowKit
variable {A B w w0:World}{K N gf i j l m n q x:Nat}{P:Program}{Q:Exit->Act->World->Prop}{R Y:Nat->Prop}{T:Nat->Value->(Nat->Prop)->World->Prop}{a:Act}{g:Operand}{lb:Array Value}{p:Nat->Bool}{ps:Array Tmp}{v:Value}
theorem za {n:Int}(h:∀ i,i<=10->n≠((2 ^ i:Nat):Int)):bU n=false:=by
 rw[Ka];intro b;obtain⟨K,a,e⟩:=(lB n).1 b;exact h K a e
theorem pQ (n:Int)(w:World):Calls prog 78 #[.int .i64 n] w λe w'=>e=.returned (.bool (bU n))/\w=w':=by
 have q:Hid (∀ k,k<10->(((2 ^ k:Nat):Int))<1024/\(2*((2 ^ k:Nat):Int))=((2 ^ (k+1):Nat):Int)):=λk p=>by
  have:(2:Nat) ^ k<2 ^ 10:=Nat.pow_lt_pow_right (by omega) p;have s:=bj k;exact⟨by omega,by omega⟩
 have l:Hid (∀ k,k<=10->n=((2 ^ k:Nat):Int)->bU n=true):=λk p e=>by rw[e];exact jZ k p
 have d:Hid ((∀ i,i<=10->n≠((2 ^ i:Nat):Int))->bU n=false):=za;generalize bU n=b at *;go_enter func78,ntmps78;go_wp2_with fail;go_loop [3] (λm=>∃ k:Nat,k<=10/\m=.int .i64 ((2 ^ k:Nat):Int)/\∀ i,i<k->n≠((2 ^ i:Nat):Int)) (λm=>(1024 - (intOf m).toNat))
 case atStart=>exact⟨0,by omega,rfl,λi h=>by omega⟩
 case round=>
  obtain⟨k,p,rfl,a⟩:=hrel;by_cases u:k<10
  ·obtain⟨F,s⟩:=q.out k u
   have j:=l.out k p;have y:Hid (n≠((2 ^ k:Nat):Int)->∀ i,i<k+1->n≠((2 ^ i:Nat):Int)):=λc i v=>by
    rcases Jc (Jn.1 v) with f|f
    ·exact a i f
    ·rw[f];exact c
   have z:(1:Int)<=((2 ^ k:Nat):Int):=by have:=bC k;exact_mod_cast this
   generalize ((2 ^ k:Nat):Int)=m at *;have t:0<=m\/m<0:=by omega
   by_cases c:n=m
   ·have r:=Lib.hid (j c)
    subst c;clear j y l d s a q;go_wp2;go_ret;exact⟨by rw[r.out];rfl,rfl⟩
   ·have o:¬m=n:=λh=>c h.symm
    have x:=Lib.hid (y.out c);have C:=Lib.hid s;by_cases E:0<=m
    ·have D:IntKind.i64.wrap (2*m)=2*m:=IA _ (by omega)
     have B:1<=m:=z;clear j y l d s a q c t;go_wp2;go_round
     case rel=>exact⟨k+1,by omega,by rw[<-C.out],x.out⟩
     case measure=>simp[intOf];omega
    ·exfalso
     have:0<=((2 ^ (k+1):Nat):Int):=Int.natCast_nonneg _;omega
  ·obtain rfl:k=10:=by omega
   have g:((2 ^ 10:Nat):Int)=1024:=rfl;rw[g];by_cases c:n=1024
   ·have r:=Lib.hid (l.out 10 (by omega) (by rw[c];rfl))
    subst c;clear l d a q g;go_wp2;go_ret;exact⟨by rw[r.out];rfl,rfl⟩
   ·have r:=Lib.hid (d.out (λi v=>by
     rcases Jc v with f|f
     ·exact a i f
     ·rw[f];exact c))
    have o:¬(1024:Int)=n:=λh=>c h.symm
    have A:((1024:Int)==n)=false:=ID.2 o;clear l d a q g c;go_wp2;go_ret;exact⟨by rw[r.out];rfl,rfl⟩
theorem lF (x n:Int)(w:World)(j:-9223372036854775808<=n/\n<=9223372036854775807):Calls prog 95 #[.int .i64 x,.int .i64 n] w λe w'=>e=.returned (.bool (inB x n))/\w=w':=by
 have c:=Lib.hid (pQ n w);by_cases b:bU n=true
 ·have i:=lC b
  have l:IntKind.i64.wrap (2*n)=2*n:=IA _ (by omega);have k:IntKind.i64.wrap (2*n - 1)=2*n - 1:=IA _ (by omega);have f:Hid (inB x n=(decide (0<=x) && decide (x<2*n - 1))):=by unfold inB;rw[b];rfl
  rw[b] at c;rw[f.out];clear b i;by_cases g:0<=x
  ·have d:(decide (0<=x) && decide (x<2*n - 1))=decide (x<2*n - 1):=by simp[g]
   rw[d];go_enter func95,ntmps95;go_wp2_with fail;refine c.out.mono ?_;rintro _ _ ⟨rfl,rfl⟩;go_wp2_with fail;go_ret;exact⟨rfl,rfl⟩
  ·have d:(decide (0<=x) && decide (x<2*n - 1))=false:=by simp;intro h;omega
   rw[d];go_enter func95,ntmps95;go_wp2_with fail;refine c.out.mono ?_;rintro _ _ ⟨rfl,rfl⟩;go_wp2_with fail;go_ret;exact⟨rfl,rfl⟩
 ·have a:bU n=false:=by rw[Ka];exact b
  have f:Hid (inB x n=false):=by unfold Hid inB;rw[a];rfl
  rw[a] at c;rw[f.out];clear b a;go_enter func95,ntmps95;go_wp2_with fail;refine c.out.mono ?_;rintro _ _ ⟨rfl,rfl⟩;go_wp2_with fail;go_ret;exact⟨rfl,rfl⟩
theorem zb (n:Int)(w:World):Calls prog 75 #[.int .i64 n] w λe w'=>e=.returned (.tuple #[.int .i64 (fL n),.int .i64 (fK n)])/\w=w':=by
 have c:=Lib.hid (pQ n w);by_cases a:bU n=true
 ·have d:=lC a
  have g:IntKind.i64.wrap (2*n)=2*n:=IA _ (by omega);have f:IntKind.i64.wrap (2*n - 1)=2*n - 1:=IA _ (by omega);rw[show fL n=2*n - 1 from if_pos a,show fK n=0 from if_pos a];rw[a] at c;clear a d;go_enter func75,ntmps75;go_wp2_with fail;refine c.out.mono ?_;rintro _ _ ⟨rfl,rfl⟩;go_wp2_with fail;go_ret2;exact⟨rfl,rfl⟩
 ·have b:bU n=false:=by rw[Ka];exact a
  rw[show fL n=0 from if_neg a,show fK n=1 from if_neg a];rw[b] at c;clear a b;go_enter func75,ntmps75;go_wp2_with fail;refine c.out.mono ?_;rintro _ _ ⟨rfl,rfl⟩;go_wp2_with fail;go_ret2;exact⟨rfl,rfl⟩
theorem zc (j q:Nat):((nd (j+1) q:Nat):Int).tmod 2=1:=by
 have:=iU j q;rw[Ji (by omega)];omega
theorem ze (q:Nat):((nd 0 q:Nat):Int).tmod 2=0:=by
 have:=ly q;rw[Ji (by omega)];omega
theorem zf (j q:Nat):((nd (j+1) q:Nat):Int).tdiv 2=((nd j q:Nat):Int):=by
 have:=sw j q;rw[Jp (by omega)];omega
theorem zg (j q:Nat)(w:World)(r:j<=10)(m:q<2 ^ (10 - j)):Calls prog 82 #[.int .i64 ((nd j q:Nat):Int)] w λe w'=>e=.returned (.int .i64 (j:Int))/\w=w':=by
 obtain⟨B,A⟩:=(dW ((nd j q:Nat):Int)).2 ⟨j,q,rfl,r,m⟩;have d:Hid (∀ i,i<=j->0<=((nd i q:Nat):Int)/\((nd i q:Nat):Int)<=2046):=λi s=>(dW ((nd i q:Nat):Int)).2 ⟨i,q,rfl,by omega,II m (JH (by omega) (by omega))⟩
 have g:=Lib.hid (λi=>zc i q);have h:=Lib.hid (ze q);have l:=Lib.hid (λi=>zf i q);obtain⟨f,o⟩:∃ f:Nat->Int,f=λi=>((nd i q:Nat):Int):=⟨_,rfl⟩
 have b:∀ i,((nd i q:Nat):Int)=f i:=λi=>by rw[o]
 simp only[b] at *;clear o b;go_enter func82,ntmps82;go_wp2_with fail;go_loop [3,4] (λk y=>∃ i:Nat,i<=j/\k=.int .i64 ((j - i:Nat):Int)/\y=.int .i64 (f i)) (λk _=>(j - (intOf k).toNat))
 case atStart=>exact⟨j,IB _,by simp,rfl⟩
 case round=>
  obtain⟨i,s,rfl,rfl⟩:=hrel;cases i with
  | zero=>
   have u:=h.out;clear d g h l;rw[Mr];go_wp2;go_ret;exact⟨rfl,rfl⟩
  | succ i=>
   have u:=g.out i;have z:=l.out i;have t:=d.out i (by omega);have v:IntKind.i64.wrap (f i)=f i:=IA _ (by omega);obtain⟨k,n⟩:∃ k:Int,((j - (i+1):Nat):Int)=k:=⟨_,rfl⟩;have a:k+1=((j - i:Nat):Int):=by omega
   have p:0<=k/\k<=10:=by omega
   have x:IntKind.i64.wrap (k+1)=k+1:=IA _ (by omega);have c:=Lib.hid a;rw[n];clear d g h l t n a;go_wp2;go_round
   case rel=>exact⟨i,by omega,by rw[<-c.out],rfl⟩
   case measure=>have:=c.out;simp[intOf];omega
theorem zh (x:Int)(w:World)(h:¬okN x):Calls prog 82 #[.int .i64 x] w λe w'=>e=.returned (.int .i64 0)/\w=w':=by
 unfold okN at h;by_cases b:0<=x
 ·have a:¬x<=2046:=λa=>h ⟨b,a⟩
  clear h;go_enter func82,ntmps82;go_wp2_with fail;go_loop [3,4] (λk y=>k=.int .i64 0/\y=.int .i64 x) (λ_ _=>0)
  case atStart=>exact⟨rfl,rfl⟩
  case round=>
   obtain⟨rfl,rfl⟩:=hrel;go_wp2;go_ret;exact⟨rfl,rfl⟩
 ·clear h
  go_enter func82,ntmps82;go_wp2_with fail;go_loop [3,4] (λk y=>k=.int .i64 0/\y=.int .i64 x) (λ_ _=>0)
  case atStart=>exact⟨rfl,rfl⟩
  case round=>
   obtain⟨rfl,rfl⟩:=hrel;go_wp2;go_ret;exact⟨rfl,rfl⟩
theorem pR (x:Int)(w:World):Calls prog 82 #[.int .i64 x] w λe w'=>e=.returned (.int .i64 (dY x))/\w=w':=by
 by_cases h:okN x
 ·obtain⟨j,q,rfl,b,a⟩:=(dW x).1 h
  rw[eL b a];exact zg j q w b a
 ·rw[lD h]
  exact zh x w h
theorem sQ (k:Nat)(w:World)(r:k<=20):Calls prog 83 #[.int .i64 (k:Int)] w λe w'=>e=.returned (.int .i64 ((2 ^ k:Nat):Int))/\w=w':=by
 have j:Hid (∀ i,i<k->0<=((2 ^ i:Nat):Int)/\((2 ^ i:Nat):Int)<=1048576/\2*((2 ^ i:Nat):Int)=((2 ^ (i+1):Nat):Int)):=λi l=>by
  have o:(2:Nat) ^ i<=2 ^ 20:=JH (by omega) (by omega);have m:=bj i;generalize 2 ^ (i+1)=N at *;generalize 2 ^ i=M at *;omega
 obtain⟨f,g⟩:∃ f:Nat->Int,f=λi=>((2 ^ i:Nat):Int):=⟨_,rfl⟩
 have a:∀ i,((2 ^ i:Nat):Int)=f i:=λi=>by rw[g]
 have b:f 0=1:=by rw[g];rfl
 simp only[a] at *;clear g a;have c:=Lib.hid b;clear b;go_enter func83,ntmps83;go_wp2_with fail;go_loop [3,4] (λn y=>∃ i:Nat,i<=k/\n=.int .i64 (f i)/\y=.int .i64 (i:Int)) (λ_ y=>(k - (intOf y).toNat))
 case atStart=>exact⟨0,IO _,by rw[c.out],rfl⟩
 case round=>
  obtain⟨i,l,rfl,rfl⟩:=hrel;by_cases d:i<k
  ·obtain⟨o,m,h⟩:=j.out i d
   have p:=Lib.hid h;have q:IntKind.i64.wrap (2*f i)=2*f i:=IA _ (by omega);clear j h c;go_wp2;go_round
   case rel=>exact⟨i+1,by omega,by rw[<-p.out],by go_num⟩
   case measure=>simp[intOf];omega
  ·obtain rfl:i=k:=by omega
   go_wp2;go_ret;exact⟨rfl,rfl⟩
structure aj (Y:Nat->Prop)(A B:World):Prop where
 os:B.os=A.os
 tape:B.tape=A.tape
 output:B.output=A.output
 size:A.heap.size<=B.heap.size
 block:∀ k,k<A.heap.size->¬Y k->B.heap[k]?=A.heap[k]?
theorem aj.refl (Y:Nat->Prop)(A:World):aj Y A A:=⟨rfl,rfl,rfl,IB _,λ_ _ _=>rfl⟩
theorem aj.mono {Z:Nat->Prop}(h:aj Y A B)(a:∀ k,Y k->Z k):aj Z A B:=⟨h.os,h.tape,h.output,h.size,λk c b=>h.block k c (λe=>b (a k e))⟩
theorem aj.of_kp (h:Kp A B):aj Y A B:=⟨h.os,h.tape,h.output,h.size,λk a _=>h.block k a⟩
theorem aj.below (h:aj Y A B)(b:n<=A.heap.size)(a:∀ k,Y k->n<=k):Below n A B:=
 ⟨h.os,h.tape,h.output,h.size,λk c=>h.block k (by omega) (λe=>by have:=a k e;omega)⟩
theorem aj.setCell (h:aj Y A B)(p:Addr)(v:Value)(b:A.heap.size<=p.block\/Y p.block):aj Y A (B.setCell p v):=
 ⟨h.os,h.tape,h.output,by simpa using h.size,λk c a=>(Below.heap_setCell B p v k (λe=>by subst e;exact b.elim (λd=>by omega) a)).trans (h.block k c a)⟩
theorem aj.putObj (h:aj Y A B)(l:Nat)(o:Obj)(b:A.heap.size<=l\/Y l):aj Y A (B.putObj l o):=
 ⟨h.os,h.tape,h.output,by simpa using h.size,λk c a=>(World.putObj_heap_other (λe=>by subst e;exact b.elim (λd=>by omega) a)).trans (h.block k c a)⟩
theorem aj.cell (h:aj Y A B){p:Addr}(a:A.cell? p=some v)(b:¬Y p.block):B.cell? p=some v:=
 (KX (w:=A) (h.block p.block (Jb A p a) b)).trans a
structure aN (R:Nat->Prop)(A B:World):Prop where
 size:A.heap.size<=B.heap.size
 block:∀ k,k<A.heap.size->R k->B.heap[k]?=A.heap[k]?
theorem aN.refl (R:Nat->Prop)(A:World):aN R A A:=⟨IB _,λ_ _ _=>rfl⟩
theorem aN.trans {C:World}(h:aN R A B)(k:aN R B C):aN R A C:=
 ⟨IU h.size k.size,λi b a=>(k.block i (II b h.size) a).trans (h.block i b a)⟩
theorem aN.mono {S:Nat->Prop}(h:aN R A B)(b:∀ k,S k->R k):aN S A B:=⟨h.size,λk c a=>h.block k c (b k a)⟩
theorem aN.of_step (h:aj Y A B)(c:∀ k,R k->¬Y k):aN R A B:=⟨h.size,λk b a=>h.block k b (c k a)⟩
theorem aN.of_kp (h:Kp A B):aN R A B:=⟨h.size,λk a _=>h.block k a⟩
theorem aN.cell (h:aN R A B){p:Addr}(a:A.cell? p=some v)(b:R p.block):B.cell? p=some v:=
 (KX (w:=A) (h.block p.block (Jb A p a) b)).trans a
theorem Rd.turn {b:List UInt8}{o:Obj}(h:Rd A v b)(p:A.heap[l]?=some o)(n:o.isCells=false)(m:aj (λk=>k=l) A B):Rd B v b:=by
 obtain⟨a,c,rfl,u,t,s,r⟩:=h;refine⟨a,c,rfl,u,t,s,λx j i q=>?_⟩;have g:=r x j i q;refine m.cell g (λe=>?_);obtain⟨o',d,f⟩:=cells_of_cell g;rw[e,p] at d;cases d;rw[n] at f;cases f
def kg (Y Y':Nat->Prop)(A B:World):Prop:=∀ k,Y' k->Y k\/(A.heap.size<=k/\k<B.heap.size)
def dw (B0:Nat)(J:(Nat->Prop)->World->Prop):Prop:=
 ∀ Y Y' A B,J Y A->(∀ k,Y k->B0<=k/\k<A.heap.size)->aj Y A B->kg Y Y' A B->J Y' B
def nO (P:Program)(gf:Nat)(lb:Array Value)(T:Nat->Value->(Nat->Prop)->World->Prop)(N:Nat)(R:Nat->Prop)(w:World):Prop:=
 ∀ (l:Nat) (J Jx:Nat->(Nat->Prop)->World->Prop) (W:World),aN R w W->w.heap.size<=l->l<W.heap.size ->
  (∀ i,dw W.heap.size (J i))->(∀ i,dw W.heap.size (Jx i)) ->
  (∀ i Y A v m,i<N->J i Y A->(∀ k,Y k->W.heap.size<=k/\k<A.heap.size)->aN R w A->T i v Y A ->
   YieldAt Fence.wide m P l #[v] A λe B=>aN (λk=>Y k\/R k) A B/\((e=.returned (.bool true)/\J (i+1) Y B)\/(e=.returned (.bool false)/\Jx i Y B))) ->
  J 0 (λ_=>False) W ->
  Calls P gf (#[.func (.yield l) #[] #[]]++lb) W λe B=>(∃ v,e=.returned v)/\∃ Y,(∀ k,Y k->W.heap.size<=k/\k<B.heap.size)/\(J N Y B\/∃ i,i<N/\Jx i Y B)
def kh:Exit->Option Code
 | .ret=>some .ret
 | .exit id=>some (.exit id)
 | .goto t=>some (.goto t)
 | _=>none
theorem RoundIn.anyDepth {d:Nat}{f:FuncId}{tmps:Array Value}{a b:Code}{R:Ending->World->Prop}
 (h:RoundIn Fence.wide m P l f tmps a b w R):RoundIn Fence.wide d P l f tmps a b w R:=⟨h.1,λc cs _=>h.2 c cs (room_wide _)⟩
theorem YieldAt.anyDepth (c:Nat){args:Array Value}{W:World}{R:Ending->World->Prop}(h:YieldAt Fence.wide m P l args W R):YieldAt Fence.wide c P l args W R:=by
 obtain⟨f,tmps,a,b,d,e⟩:=h;exact⟨f,tmps,a,b,d,RoundIn.anyDepth e⟩
theorem lG (w:World)(D:Nat)(o:Obj):(w.putObj D o).heap.size=w.heap.size:=by
 simp[World.putObj]
theorem sR {assign body:Code}
    (hg:a.eval g=.func (.func gf) #[] lb) (eg:∀ args w,(callFunc gf args).run P w=.ok (.enter gf args) w)
      (ag:Kp w0 w) (ap:∀ k,R k->k<w0.heap.size) (ay:nO P gf lb T N R w0) (aH:ps.size=1)
  (I:Nat->(Nat->Prop)->World->Prop) (Ix:Code->Nat->(Nat->Prop)->World->Prop)
  (hI:∀ i,dw w.heap.size (I i)) (ar:∀ c i,dw w.heap.size (Ix c i))
  (aR:∀ i v q Y A B l o,T i v q A->(∀ k,q k->Y k)->(∀ k,Y k->q k\/∃ o:Obj,A.heap[k]?=some o/\o.isCells=false)->w.heap.size<=l->A.heap[l]?=some (.loop o)->aj (λk=>k=l) A B->T i v Y B)
  (h0:I 0 (λ_=>False) w) (Ax:Value->Act->World->Prop)
  (aX:∀ v O A l o o',Ax v O A->w.heap.size<=l->A.heap[l]?=some (.loop o)->Ax v O (A.putObj l o'))
  (ae:∀ (l i:Nat) (Y q:Nat->Prop) (v:Value) (A:World) (K:Act->World->Prop),I i Y A->T i v q A->(∀ O A',Kp A A'->Ax v O A'->K O A') ->
   assign.wpIn (Fence.wide.inRound l) 4 P (Exit.then K (λ_ _ _=>False)) { tmps:=(ps.zip #[v]).foldl (λt (p,v)=>t.setIfInBounds p v) a.tmps,defers:=[] } A)
  (ao:∀ (l i:Nat) (Y:Nat->Prop) (v:Value) (O:Act) (A:World),i<N->I i Y A->(∀ k,Y k->w.heap.size<=k/\k<A.heap.size)->aN R w A->T i v Y A->Ax v O A ->
   body.wpIn (Fence.wide.inRound l) 4 P (λe _ B=>aN (λk=>Y k\/R k) A B/\((e=.normal/\I (i+1) Y B)\/∃ c,kh e=some c/\Ix c i Y B)) O A)
  (an:∀ (D:Nat) (Y:Nat->Prop) (W:World),w.heap.size<=D->Y D->(∀ k,Y k->w.heap.size<=k)->I N Y W->W.heap[D]?=some (.deferred (some []))->Q .normal { a with defers:={ target:=.collected D,args:=#[] } :: a.defers } W)
  (ah:∀ (D:Nat) (c:Code) (i:Nat) (Y:Nat->Prop) (W:World),w.heap.size<=D->Y D->(∀ k,Y k->w.heap.size<=k)->i<N->Ix c i Y W->W.heap[D]?=some (.deferred (some []))->c.wp P Q { a with defers:={ target:=.collected D,args:=#[] } :: a.defers } W):
  (Code.rangeFunc g ps assign body).wp P Q a w:=by
 have hR:∀ k,R k->k<w.heap.size:=λk b=>II (ap k b) ag.size
 refine(wpIn_wide (n:=6)).1 (wpIn_rangeFunc ?_);intro fn aK;rw[show Fence.wide.round=none from rfl];let rec':LoopState->Option Code->Loop:=λst pe=>{ state:=st,pending:=pe,fn,tmps:=a.tmps,params:=ps,assign,body,defers:=w.heap.size }
 obtain⟨J,af⟩:∃ J,(w.alloc (.deferred (some []))).alloc (.loop (rec' .ready none))=J:=⟨_,rfl⟩;have aW:J.heap[w.heap.size]?=some (.deferred (some [])):=by
  rw[<-af];exact(Below.heap_alloc _ _ _ (by simp)).trans (heap_alloc_new w _)
 have aU:J.heap[w.heap.size+1]?=some (.loop (rec' .ready none)):=by
  rw[<-af];have:=heap_alloc_new (w.alloc (.deferred (some []))) (.loop (rec' .ready none));rwa [IQ] at this
 have aY:J.heap.size=w.heap.size+2:=by rw[<-af];simp
 have aB:Kp w J:=by rw[<-af];exact((Kp.refl w).alloc _).alloc _
 let V:Nat->(Nat->Prop)->World->(Nat->Prop)->Prop:=λi q A Y=>I i Y A/\(∀ k,q k->Y k)/\(∀ k,Y k->q k\/k=w.heap.size\/k=w.heap.size+1)/\(∀ k,Y k->w.heap.size<=k/\k<A.heap.size)/\Y w.heap.size/\Y (w.heap.size+1) /\
  A.heap[w.heap.size]?=some (.deferred (some []))/\A.heap[w.heap.size+1]?=some (.loop (rec' .ready none))
 let Vx:Nat->(Nat->Prop)->World->(Nat->Prop)->Code->Prop:=λi q A Y c=>Ix c i Y A/\(∀ k,q k->Y k)/\(∀ k,Y k->q k\/k=w.heap.size\/k=w.heap.size+1)/\(∀ k,Y k->w.heap.size<=k/\k<A.heap.size)/\Y w.heap.size/\Y (w.heap.size+1) /\
  A.heap[w.heap.size]?=some (.deferred (some []))/\A.heap[w.heap.size+1]?=some (.loop (rec' .done (some c)))
 have hV:∀ i,dw J.heap.size (λq A=>∃ Y,V i q A Y):=by
  rintro i q av A B ⟨Y,hi,s,z,d,j,f,hd,L⟩ y r aa;have ai:¬q w.heap.size:=λe=>by have:=(y _ e).1;omega
  have G:¬q (w.heap.size+1):=λe=>by have:=(y _ e).1;omega
  have au:=(d _ j).2;have aq:=(d _ f).2;refine⟨λk=>av k\/k=w.heap.size\/k=w.heap.size+1,hI i Y _ A B hi d (r.mono s) (λk b=>?_),λk b=>.inl b,λk b=>b,λk b=>?_,.inr (.inl rfl),.inr (.inr rfl),(r.block _ au ai).trans hd,(r.block _ aq G).trans L⟩
  ·rcases b with b|rfl|rfl
   ·exact(aa k b).imp (s k) id
   ·exact .inl j
   ·exact .inl f
  ·have:=r.size
   rcases b with b|rfl|rfl
   ·rcases aa k b with h|h
    ·have:=d k (s k h);omega
    ·have:=d _ j;omega
   ·omega
   ·omega
 have aP:∀ i,dw J.heap.size (λq A=>∃ Y c,Vx i q A Y c):=by
  rintro i q av A B ⟨Y,c,hi,s,z,d,j,f,hd,L⟩ y r aa;have ai:¬q w.heap.size:=λe=>by have:=(y _ e).1;omega
  have G:¬q (w.heap.size+1):=λe=>by have:=(y _ e).1;omega
  have au:=(d _ j).2;have aq:=(d _ f).2;refine⟨λk=>av k\/k=w.heap.size\/k=w.heap.size+1,c,ar c i Y _ A B hi d (r.mono s) (λk b=>?_),λk b=>.inl b,λk b=>b,λk b=>?_,.inr (.inl rfl),.inr (.inr rfl),(r.block _ au ai).trans hd,(r.block _ aq G).trans L⟩
  ·rcases b with b|rfl|rfl
   ·exact(aa k b).imp (s k) id
   ·exact .inl j
   ·exact .inl f
  ·have:=r.size
   rcases b with b|rfl|rfl
   ·rcases aa k b with h|h
    ·have:=d k (s k h);omega
    ·have:=d _ j;omega
   ·omega
   ·omega
 refine⟨w.heap.size+1,[{ target:=.collected w.heap.size,args:=#[] }],J,{ target:=.fn (.func gf) lb,args:=#[.func (.yield (w.heap.size+1)) #[] #[]] },J,gf,
  #[.func (.yield (w.heap.size+1)) #[] #[]]++lb,J,?_,?_,?_,?_,λ_=>by omega,?_⟩
 ·rw[<-af];exact run_enterLoop_outer _ _ _ _ _
 ·simp only[resolve,hg]
  simp[go_sem]
 ·intro f' aZ
  trivial
 ·simp[invoke,go_sem,eg]
 ·refine callsIn_wide.2 ((ay (w.heap.size+1) (λi q A=>∃ Y,V i q A Y) (λi q A=>∃ Y c,Vx i q A Y c) J (aN.of_kp (ag.trans aB)) (by have:=ag.size;omega) (by omega) hV aP ?_
   ⟨λk=>k=w.heap.size\/k=w.heap.size+1,hI 0 _ _ w J h0 (λk b=>b.elim) (aj.of_kp aB) (λk b=>.inr (by rcases b with rfl|rfl <;> omega)),λk b=>b.elim,λk b=>.inr b,λk b=>by rcases b with rfl|rfl <;> omega,.inl rfl,.inr rfl,aW,aU⟩).mono ?_)
  ·rintro i q A v m hi ⟨Y,aF,s,z,d,j,f,hd,L⟩ y aE hT
   have aT:aN R w A:=⟨by have:=(d _ f).2;omega,λk _ X=>(aE.block k (ap k X) X).trans (ag.block k (ap k X)).symm⟩;have ak:w.heap.size+1<A.heap.size:=(d _ f).2;have hy:=run_yield (P:=P) (args:=#[v]) L (by show(#[v]:Array Value).size=ps.size;rw[aH];rfl);have aQ:∀ B,aj (λk=>k=w.heap.size+1) A B->T i v Y B:=λB hB=>aR i v q Y A B _ _ hT s (λk b=>(z k b).imp id (λh=>h.elim (λe=>⟨_,e▸hd,rfl⟩) (λe=>⟨_,e▸L,rfl⟩))) (by omega) L hB
   have aS:∀ k,R k->k≠w.heap.size+1:=λk b=>by have:=hR k b;omega
   refine YieldAt.anyDepth m (m:=4) ⟨fn,_,assign,body,hy,roundIn_of_wpIn aK (ae _ i Y q v A _ aF hT ?_)⟩;intro O A1 Z aO;have al:=(Z.block _ ak).trans L;have aM:=(Z.block _ (d _ j).2).trans hd;refine⟨_,run_beginRound al rfl,?_⟩;have aA:w.heap.size+1<A1.heap.size:=(Iz.1 al).1;obtain⟨F,C⟩:∃ F,A1.putObj (w.heap.size+1) (.loop { rec' .ready none with state:=.busy })=F:=⟨_,rfl⟩;rw[C];have ax:aj (λk=>k=w.heap.size+1) A F:=by rw[<-C];exact(aj.of_kp Z).putObj _ _ (.inr rfl)
   have r:aj Y A F:=by rw[<-C];exact(aj.of_kp Z).putObj _ _ (.inr f)
   have aI:F.heap[w.heap.size+1]?=some (.loop { rec' .ready none with state:=.busy }):=by rw[<-C];exact World.putObj_heap_same aA
   have aL:F.heap[w.heap.size]?=some (.deferred (some [])):=by rw[<-C];exact(World.putObj_heap_other (by omega)).trans aM
   have aC:Ax v O F:=by rw[<-C];exact aX v O A1 _ _ _ aO (by omega) al
   have E:∀ k,Y k->w.heap.size<=k/\k<F.heap.size:=λk b=>⟨(d k b).1,II (d k b).2 r.size⟩
   have aV:=hI i Y Y A F aF d r (λk b=>.inl b);have aD:aN R w F:=(aT.trans (aN.of_step r (λk b hy=>by have:=hR k b;have:=(d k hy).1;omega)));refine wpIn_mono (ao _ i Y v O F hi aV E aD (aQ F ax) aC) ?_;have aG:∀ (u:Option Code) (B:World),aN (λk=>Y k\/R k) F B->∃ x,(Instr.endRound (w.heap.size+1) u).run P B=.ok (.bool u.isNone) x /\
     x.heap[w.heap.size+1]?=some (.loop (rec' (if u.isNone then .ready else .done) u))/\x.heap[w.heap.size]?=some (.deferred (some []))/\aj Y B x/\(∀ k,Y k->w.heap.size<=k/\k<B.heap.size)/\aN (λk=>q k\/R k) A x:=λu B hh=>by
    have H:=(hh.block _ (E _ f).2 (.inl f)).trans aI;have ad:=(hh.block _ (E _ j).2 (.inl j)).trans aL;have az:w.heap.size+1<B.heap.size:=(Iz.1 H).1;have G:∀ k,q k\/R k->k≠w.heap.size+1:=λk b=>by
     rcases b with h|h
     ·have:=(y _ h).1;omega
     ·exact aS k h
    refine⟨_,run_endRound (P:=P) u H,World.putObj_heap_same az,(World.putObj_heap_other (by omega)).trans ad,(aj.refl Y B).putObj _ _ (.inr f),λk b=>⟨(d k b).1,II (E k b).2 hh.size⟩,⟨?_,λk b X=>?_⟩⟩
    ·rw[lG];exact IU r.size hh.size
    ·have e1:F.heap[k]?=A.heap[k]?:=by
      rw[<-C];exact(World.putObj_heap_other (G k X)).trans (Z.block k b)
     refine(World.putObj_heap_other (G k X)).trans ((hh.block k (II b r.size) ?_).trans e1);exact X.elim (λh=>.inl (s k h)) .inr
   have aw:∀ (u:Option Code) (B x:World),aj Y B x->(∀ k,Y k->w.heap.size<=k/\k<B.heap.size)->(∀ k,Y k->w.heap.size<=k/\k<x.heap.size):=λ_ B x h hy k b=>⟨(hy k b).1,II (hy k b).2 h.size⟩
   rintro e a3 B ⟨hh,hp⟩;have go:∀ c,kh e=some c->Ix c i Y B->∃ v x,(Instr.endRound (w.heap.size+1) (some c)).run P B=.ok v x /\
     (aN (λk=>q k\/R k) A x/\((Ending.returned v=.returned (.bool true)/\∃ Y,V (i+1) q x Y)\/(Ending.returned v=.returned (.bool false)/\∃ Y c,Vx i q x Y c))):=λc M hx=>by
    obtain⟨x,X,H,ad,U,S,am⟩:=aG (some c) B hh;exact⟨_,x,X,am,.inr ⟨rfl,Y,c,ar c i Y Y B x hx S U (λk b=>.inl b),s,z,aw none B x U S,j,f,ad,H⟩⟩
   cases e with
   | normal=>
    rcases hp with⟨_,hi3⟩|⟨c,M,_⟩
    ·obtain⟨x,X,H,ad,U,S,am⟩:=aG none B hh
     exact⟨_,x,X,am,.inl ⟨rfl,Y,hI (i+1) Y Y B x hi3 S U (λk b=>.inl b),s,z,aw none B x U S,j,f,ad,H⟩⟩
    ·cases M
   | ret=>
    rcases hp with⟨h,_⟩|⟨c,M,hx⟩
    ·cases h
    ·cases M;exact go _ rfl hx
   | exit id=>
    rcases hp with⟨h,_⟩|⟨c,M,hx⟩
    ·cases h
    ·cases M;exact go _ rfl hx
   | goto t=>
    rcases hp with⟨h,_⟩|⟨c,M,hx⟩
    ·cases h
    ·cases M;exact go _ rfl hx
   | panic ch=>
    rcases hp with⟨h,_⟩|⟨c,M,_⟩
    ·cases h
    ·cases M
   | outgrown=>
    rcases hp with⟨h,_⟩|⟨c,M,_⟩
    ·cases h
    ·cases M
  ·rintro e W2 ⟨⟨v,rfl⟩,q,y,(⟨Y,hi,s,z,d,j,f,hd,L⟩|⟨i,aJ,Y,c,hi,s,z,d,j,f,hd,L⟩)⟩
   ·have ak:w.heap.size+1<W2.heap.size:=(d _ f).2
    have ab:(Instr.endLoop (w.heap.size+1)).run P W2=.ok none (W2.putObj (w.heap.size+1) (.loop (rec' .exhausted none))):=run_endLoop (P:=P) L (by simp[rec']);refine⟨none,_,ab,an _ Y _ (IB _) j (λk b=>(d k b).1) (hI N Y Y W2 _ hi d ((aj.refl _ _).putObj _ _ (.inr f)) (λk b=>.inl b)) ((World.putObj_heap_other (by omega)).trans hd)⟩
   ·have ak:w.heap.size+1<W2.heap.size:=(d _ f).2
    have ab:(Instr.endLoop (w.heap.size+1)).run P W2=.ok (some c) (W2.putObj (w.heap.size+1) (.loop (rec' .exhausted (some c)))):=run_endLoop (P:=P) L (by simp[rec']);exact⟨some c,_,ab,wpIn_wide.2 (ah _ c i Y _ (IB _) j (λk b=>(d k b).1) aJ (ar c i Y Y W2 _ hi d ((aj.refl _ _).putObj _ _ (.inr f)) (λk b=>.inl b)) ((World.putObj_heap_other (by omega)).trans hd))⟩
structure Nod where
 mk ::
 kind:Int
 name:Int
 pub:List UInt8
 un:List Int
 hash:List UInt8
theorem Nod.eq_iff (a b:Nod):a=b↔a.kind=b.kind/\a.name=b.name/\a.pub=b.pub/\a.un=b.un/\a.hash=b.hash:=by
 cases a;cases b;simp
instance:DecidableEq Nod:=λa b=>decidable_of_iff _ (Nod.eq_iff a b).symm
def aY:Nod:=⟨0,0,[],[],[]⟩
def aD (name:Int)(pub:List UInt8):Nod:=⟨1,name,pub,[],[]⟩
def ats (t:List Nod)(x:Nat):Nod:=t.getD x aY
def lvs (t:List Nod):Nat:=(t.length+1) / 2
theorem jA {t:List Nod}(h:x<t.length):ats t x=t[x]:=by
 unfold ats;rw[Iw,Iy h];rfl
theorem iW {t:List Nod}(h:t.length<=x):ats t x=aY:=by
 unfold ats;rw[Iw,Ly h];rfl
theorem dZ (t:List Nod)(y:Nat)(n:Nod)(x:Nat)(h:y<t.length):ats (t.set y n) x=if x=y then n else ats t x:=by
 unfold ats;rw[Iw,Kh,Iw];by_cases e:y=x
 ·subst e
  rw[if_pos rfl,if_pos rfl,if_pos h];rfl
 ·rw[if_neg e,if_neg (λh=>e h.symm)]
theorem zt (t:List Nod)(k x:Nat):ats (t++List.replicate k aY) x=ats t x:=by
 unfold ats;rw[Iw,Iw];by_cases h:x<t.length
 ·rw[Jh h]
 ·rw[Jd (by omega),Ly (l:=t) (by omega),List.getElem?_replicate]
  split <;> rfl
theorem sX {t u:List Nod}(a:t.length=u.length)(h:∀ x,ats t x=ats u x):t=u:=by
 refine LI a λx c b=>?_
 have:=h x;rwa [jA c,jA b] at this
def dx (name:Int)(pub:List UInt8):Prop:=0<=name/\name<=65535/\pub.length=32
instance (name:Int) (pub:List UInt8):Decidable (dx name pub):=by unfold dx;infer_instance
def unP (t:List Nod)(a b:Int)(l:List Int):Prop:=l.Pairwise (·<·)/\∀ i∈l,a<=i/\i<=b/\(ats t (2*i.toNat)).kind=1
def okP (t:List Nod)(x:Nat):Prop:=
 ats t x=aY \/
 ((ats t x).kind=1+(x:Int) % 2/\dx (ats t x).name (ats t x).pub/\((ats t x).hash.length=0\/(ats t x).hash.length=32) /\
  ((ats t x).kind=1->(ats t x).un=[])/\((ats t x).kind=2->(ats t x).name=0/\unP t (loV x) (hiV x) (ats t x).un))
structure az (t:List Nod)(K:Nat):Prop where
 mk ::
 le:K<=10
 len:t.length=2 ^ (K+1) - 1
 ok:∀ x,x<t.length->okP t x
 one:∀ x y,x<y->y<t.length->(ats t x).kind=1->(ats t y).kind=1->(ats t x).name≠(ats t y).name
 used:∃ x,x<t.length/\(ats t x).kind=1
def ft (t:List Nod):Prop:=∃ K,az t K
theorem az.lv {t:List Nod}(h:az t K):lvs t=2 ^ K:=by
 unfold lvs;rw[h.len];have:=bC K;have:=bj K;omega
theorem az.len2 {t:List Nod}(h:az t K):t.length=2*2 ^ K - 1:=by rw[h.len,bj]
theorem az.okA {t:List Nod}(h:az t K)(x:Nat):okP t x:=by
 by_cases a:x<t.length
 ·exact h.ok x a
 ·exact .inl (iW (by omega))
theorem zu {t:List Nod}(h:okP t x)(a:(ats t x).kind=0):ats t x=aY:=by
 rcases h with h|⟨h,_⟩
 ·exact h
 ·omega
theorem az.even {t:List Nod}(h:az t K)(i:Nat):ats t (2*i)=aY\/((ats t (2*i)).kind=1/\(ats t (2*i)).un=[]/\dx (ats t (2*i)).name (ats t (2*i)).pub/\((ats t (2*i)).hash.length=0\/(ats t (2*i)).hash.length=32)):=by
 rcases h.okA (2*i) with a|⟨a,d,c,b,_⟩
 ·exact .inl a
 ·have e:(ats t (2*i)).kind=1:=by rw[a];omega
  exact .inr ⟨e,b e,d,c⟩
theorem az.odd {t:List Nod}(h:az t K)(c:x % 2=1):ats t x=aY\/((ats t x).kind=2/\unP t (loV x) (hiV x) (ats t x).un):=by
 rcases h.okA x with a|⟨a,g,f,d,b⟩
 ·exact .inl a
 ·have e:(ats t x).kind=2:=by rw[a];omega
  exact .inr ⟨e,(b e).2⟩
theorem az.unAt {t:List Nod}(h:az t K)(l:j<=10)(g:q<2 ^ (10 - j))(i:Int)(a:i∈(ats t (nd j q)).un):
  ∃ k:Nat,i=(k:Int)/\k / 2 ^ j=q/\(ats t (2*k)).kind=1:=by
 rcases h.okA (nd j q) with b|⟨b,u,s,n,m⟩
 ·rw[b] at a;simp[aY] at a
 ·by_cases e:(ats t (nd j q)).kind=1
  ·rw[n e] at a;simp at a
  ·have o:(ats t (nd j q)).kind=2:=by omega
   obtain⟨r,p,c⟩:=(m o).2.2 i a;obtain⟨f,d⟩:=ke l g;rw[f] at r;rw[d] at p;obtain⟨k,rfl⟩:=IR (show 0<=i by omega);rw[IM] at c;refine⟨k,rfl,(pO j q k).1 ⟨by omega,?_⟩,c⟩;have:=bC j;omega
def pW (t:List Nod)(name:Int):Nat:=(List.range (lvs t)).findIdx λi=>decide ((ats t (2*i)).kind=1/\(ats t (2*i)).name=name)
def gd (t:List Nod)(name:Int):Bool:=decide (pW t name<lvs t)
def kj (t:List Nod)(name:Int):Int:=if gd t name then (pW t name:Int) else 0
theorem pX (h:(List.range n).findIdx p<n):p ((List.range n).findIdx p)=true:=by
 have:=List.findIdx_getElem (p:=p) (xs:=List.range n) (w:=by rw[List.length_range];exact h);rwa [List.getElem_range] at this
theorem zv (h:i<(List.range n).findIdx p):p i=false:=by
 have a:i<(List.range n).length:=II h LX;have:=List.not_of_lt_findIdx (p:=p) (xs:=List.range n) h;rw[List.getElem_range] at this;simpa using this
theorem sY (n:Nat)(p:Nat->Bool):(List.range n).findIdx p<=n:=by
 have:=LX (p:=p) (xs:=List.range n);rwa [List.length_range] at this
theorem sZ (d:i<=n)(c:i<n->p i=true)(b:∀ k,k<i->p k=false):(List.range n).findIdx p=i:=by
 rcases Nat.lt_trichotomy ((List.range n).findIdx p) i with h|h|h
 ·have:=pX (p:=p) (n:=n) (by omega)
  rw[b _ h] at this;cases this
 ·exact h
 ·have a:=zv h
  have e:=sY n p;rw[c (by omega)] at a;cases a
def dc (t:List Nod):Nat:=(List.range (lvs t)).findIdx λi=>decide ((ats t (2*i)).kind=0)
def fO (l:List Int)(n:Int):Nat:=l.findIdx λx=>decide (n<x)
def iX (l:List Int)(n:Int):List Int:=l.take (fO l n)++n :: l.drop (fO l n)
def lgT (t:List Nod):Nat:=(lvs t).log2
def aU (t:List Nod)(i:Nat):List Nat:=aC (lgT t) 0 i
def aI (t:List Nod):List Nod:=if dc t=lvs t then t++List.replicate (t.length+1) aY else t
def gg (n:Nod)(i:Nat):Nod:=⟨n.kind,n.name,n.pub,iX n.un i,n.hash⟩
def cD (o:List Nod)(i:Nat)(x:Nat):List Nod:=if (ats o x).kind=2 then o.set x (gg (ats o x) i) else o
def gN (t:List Nod)(name:Int)(pub:List UInt8):List Nod:=
 (aU (aI t) (dc t)).foldl (λo x=>cD o (dc t) x) ((aI t).set (2*dc t) (aD name pub))
def dK (t:List Nod)(name:Int)(pub:List UInt8):Int:=
 if dx name pub then (if gd t name then 12 else if dc t=1024 then 4 else 0) else 1
def gO (t:List Nod)(name:Int)(pub:List UInt8):List Nod:=if dK t name pub=0 then gN t name pub else t
def iC (t:List Nod)(name:Int)(pub:List UInt8):Int:=if dK t name pub=0 then (dc t:Int) else 0
def bd (t:List Nod)(i:Int):Prop:=0<=i/\i<lvs t/\(ats t (2*i.toNat)).kind=1
instance (t:List Nod) (i:Int):Decidable (bd t i):=by unfold bd;infer_instance
def lH (t:List Nod)(i:Nat):List Nod:=(aU t i).foldl (λo x=>o.set x aY) t
def zw (t:List Nod)(f:Nat):Prop:=∀ i,f<=i->i<lvs t->(ats t (2*i)).kind=0
instance (t:List Nod) (f:Nat):Decidable (zw t f):=
 decidable_of_iff (∀ i,i<lvs t->f<=i->(ats t (2*i)).kind=0) ⟨λh i h1 h2=>h i h2 h1,λh i h1 h2=>h i h2 h1⟩
def ta (t:List Nod)(i:Nat):List Nod:=(lH t i).set (2*i) aY
def lI (t:List Nod)(i:Int)(pub:List UInt8):Int:=if pub.length=32 then (if bd t i then 0 else 11) else 1
def bo (t:List Nod)(i:Nat)(pub:List UInt8):List Nod:=(lH t i).set (2*i) (aD (ats t (2*i)).name pub)
def lJ (t:List Nod)(i:Int)(pub:List UInt8):List Nod:=if lI t i pub=0 then bo t i.toNat pub else t
def bm (t:List Nod):Nat->Nat->List Int
 | 0,q=>if (ats t (nd 0 q)).kind=0 then [] else ((nd 0 q:Nat):Int) :: (ats t (nd 0 q)).un.map (2*·)
 | j+1,q=>if (ats t (nd (j+1) q)).kind=0 then bm t j (2*q)++bm t j (2*q+1) else ((nd (j+1) q:Nat):Int) :: (ats t (nd (j+1) q)).un.map (2*·)
def gi (t:List Nod)(x:Int):List Int:=if 0<=x/\x<t.length then bm t (lev x.toNat) (qOf x.toNat) else []
def gn (t:List Nod)(m:Nat):Prop:=t.length<=m/\∀ n∈t,n.pub.length<=40/\n.hash.length<=40/\n.un.length<=m
theorem qe (h:K<=10):(2 ^ K).log2=K:=by
 have:=sE K h;unfold lgN at this;rwa [IM] at this
theorem az.lg {t:List Nod}(h:az t K):lgT t=K:=by
 unfold lgT;rw[h.lv,qe h.le]
theorem jC:x∈aC K 0 i↔∃ j,1<=j/\j<=K/\x=nd j (i / 2 ^ j):=by
 unfold aC;rw[Ju];constructor
 ·rintro⟨k,a,rfl⟩
  rw[List.mem_range] at a;exact⟨k+1,by omega,by omega,by rw[show 0+1+k=k+1 by omega]⟩
 ·rintro⟨j,c,b,rfl⟩
  exact⟨j - 1,by rw[List.mem_range];omega,by rw[show 0+1+(j - 1)=j by omega,show j - 1+1=j by omega]⟩
theorem eO (h:x∈aC K 0 i):x % 2=1:=by
 obtain⟨j,a,_,rfl⟩:=jC.1 h;obtain⟨j,rfl⟩:=Nat.exists_eq_add_of_le' a;exact iU _ _
theorem ec (a:i<2 ^ K)(h:x∈aC K 0 i):x<2 ^ (K+1) - 1:=by
 obtain⟨j,c,b,rfl⟩:=jC.1 h;refine fq b ?_;have:=jz (K:=K) (j:=0) (q:=i) (i:=j) (by simpa using a) (by omega);rwa [show K - (0+j)=K - j by omega] at this
theorem qf (K i:Nat):(aC K 0 i).Nodup:=by
 unfold aC;refine List.Pairwise.map _ ?_ (List.nodup_range (n:=K - 0));intro a b d c;have:=(iA c).1;omega
theorem zA (l:List Nat):∀ t:List Nod,(l.foldl (λo x=>o.set x aY) t).length=t.length:=by
 induction l with
 | nil=>intro t;rfl
 | cons a l ih=>intro t;rw[Ml,ih,IW]
theorem zB (l:List Nat):∀ (t:List Nod) (x:Nat),(∀ y∈l,y<t.length)->ats (l.foldl (λo x=>o.set x aY) t) x=if x∈l then aY else ats t x:=by
 induction l with
 | nil=>intro t x _;simp
 | cons a l ih=>
  intro t x h
  rw[Ml,ih (t.set a aY) x (λy b=>by rw[IW];exact h y (LG _ b)),dZ t a aY x (h a Lx)]
  by_cases e:x=a
  ·subst e;simp
  ·simp[e]
theorem qg (l:List Nat)(i:Nat):∀ t:List Nod,(l.foldl (λo x=>cD o i x) t).length=t.length:=by
 induction l with
 | nil=>intro t;rfl
 | cons a l ih=>
  intro t
  rw[Ml,ih]
  unfold cD
  split
  ·rw[IW]
  ·rfl
theorem zC (t:List Nod)(i a x:Nat)(h:a<t.length):ats (cD t i a) x=if x=a/\(ats t a).kind=2 then gg (ats t a) i else ats t x:=by
 unfold cD;by_cases b:(ats t a).kind=2
 ·rw[if_pos b,dZ t a _ x h]
  by_cases e:x=a
  ·rw[if_pos e,if_pos ⟨e,b⟩]
  ·rw[if_neg e,if_neg (λh=>e h.1)]
 ·rw[if_neg b,if_neg (λh=>b h.2)]
theorem tb (l:List Nat)(i:Nat):∀ (t:List Nod) (x:Nat),l.Nodup->(∀ y∈l,y<t.length) ->
  ats (l.foldl (λo x=>cD o i x) t) x=if x∈l/\(ats t x).kind=2 then gg (ats t x) i else ats t x:=by
 induction l with
 | nil=>intro t x _ _;simp
 | cons a l ih=>
  intro t x f h
  have k:=h a Lx
  rw[LT] at f
  have c:(cD t i a).length=t.length:=by
   have:=qg [a] i t
   simpa using this
  rw[Ml,ih (cD t i a) x f.2 (λy j=>by rw[c];exact h y (LG _ j)),zC t i a x k]
  by_cases e:x=a
  ·subst e
   have g:¬(x∈l/\(if x=x/\(ats t x).kind=2 then gg (ats t x) i else ats t x).kind=2):=λh=>f.1 h.1
   rw[if_neg g]
   by_cases d:(ats t x).kind=2
   ·rw[if_pos ⟨rfl,d⟩,if_pos ⟨Lx,d⟩]
   ·rw[if_neg (λh=>d h.2),if_neg (λh=>d h.2)]
  ·have g:(if x=a/\(ats t a).kind=2 then gg (ats t a) i else ats t x)=ats t x:=if_neg (λh=>e h.1)
   rw[g]
   by_cases b:x∈l/\(ats t x).kind=2
   ·rw[if_pos b,if_pos ⟨LG _ b.1,b.2⟩]
   ·rw[if_neg b,if_neg (λh=>b ⟨(JP.1 h.1).resolve_left e,h.2⟩)]
theorem qj (t:List Nod):dc t<=lvs t:=sY _ _
theorem zD {t:List Nod}(h:dc t<lvs t):(ats t (2*dc t)).kind=0:=by
 have:=pX h;exact JU this
theorem zE {t:List Nod}(b:i<=lvs t)(d:i<lvs t->(ats t (2*i)).kind=0)(c:∀ k,k<i->(ats t (2*k)).kind≠0):dc t=i:=
 sZ b (λh=>IY (d h)) (λk a=>IS (c k a))
def wK (t:List Nod)(K:Nat):Nat:=if dc t=lvs t then K+1 else K
theorem az.wide {t:List Nod}(h:az t K):(aI t).length=2 ^ (wK t K+1) - 1/\lvs (aI t)=2 ^ wK t K/\dc t<2 ^ wK t K/\(∀ x,ats (aI t) x=ats t x)/\K<=wK t K:=by
 have g:=h.len2;have c:=h.lv;have f:=bC K;have e:=bj K;have b:=qj t;unfold aI wK;unfold lvs at c b ⊢;by_cases a:dc t=(t.length+1) / 2
 ·rw[if_pos a,if_pos a]
  have d:=bj (K+1);refine⟨?_,?_,?_,λx=>zt _ _ _,by omega⟩
  ·rw[IE,JD];omega
  ·rw[IE,JD];omega
  ·omega
 ·rw[if_neg a,if_neg a]
  exact⟨by omega,by omega,by omega,λx=>rfl,by omega⟩
theorem az.gap1024 {t:List Nod}(h:az t K)(a:dc t≠1024):wK t K<=10:=by
 unfold wK;have c:=h.le;have d:=h.lv;split
 ·next e=>
  rcases Jc c with b|b
  ·omega
  ·subst b
   rw[e,d] at a;exact absurd rfl a
 ·exact c
theorem az.blankLen {t:List Nod}(i:Nat):(lH t i).length=t.length:=zA _ _
theorem az.blankAt {t:List Nod}(h:az t K)(b:i<2 ^ K)(x:Nat):ats (lH t i) x=if x∈aC K 0 i then aY else ats t x:=by
 unfold lH aU;rw[h.lg];exact zB _ _ x (λy a=>by rw[h.len];exact ec b a)
theorem az.goneAt {t:List Nod}(h:az t K)(b:i<2 ^ K)(x:Nat):ats (ta t i) x=if x=2*i\/x∈aC K 0 i then aY else ats t x:=by
 have c:=h.len2;unfold ta;rw[dZ _ _ _ x (by rw[az.blankLen,c];omega),h.blankAt b x];by_cases e:x=2*i
 ·rw[if_pos e,if_pos (.inl e)]
 ·rw[if_neg e]
  by_cases a:x∈aC K 0 i
  ·rw[if_pos a,if_pos (.inr a)]
  ·rw[if_neg a,if_neg (λh=>h.elim e a)]
theorem az.updAt {t:List Nod}(h:az t K)(a:i<2 ^ K)(pub:List UInt8)(x:Nat):
  ats (bo t i pub) x=if x=2*i then aD (ats t (2*i)).name pub else if x∈aC K 0 i then aY else ats t x:=by
 have b:=h.len2;unfold bo;rw[dZ _ _ _ x (by rw[az.blankLen,b];omega),h.blankAt a x]
theorem az.updLen {t:List Nod}(i:Nat)(pub:List UInt8):(bo t i pub).length=t.length:=by
 unfold bo;rw[IW,az.blankLen]
theorem az.lt_of {t:List Nod}(h:(ats t x).kind≠0):x<t.length:=by
 refine Nat.lt_of_not_le λa=>h ?_
 rw[iW a];rfl
theorem zF {t u:List Nod}(h:okP t x)(d:ats u x=ats t x)(j:∀ k:Nat,(k:Int)∈(ats t x).un->(ats t (2*k)).kind=1->(ats u (2*k)).kind=1)(g:0<=loV x):okP u x:=by
 rcases h with b|⟨b,n,m,l,a⟩
 ·exact .inl (by rw[d,b])
 ·refine .inr ?_
  rw[d];refine⟨b,n,m,l,λe=>⟨(a e).1,(a e).2.1,λi c=>?_⟩⟩;obtain⟨p,o,f⟩:=(a e).2.2 i c;obtain⟨k,rfl⟩:=IR (show 0<=i by omega);rw[IM] at f ⊢;exact⟨p,o,j k c f⟩
theorem zG (x:Int):0<=loV x:=by
 unfold loV;split
 ·omega
 ·omega
theorem zH {l:List Int}{n:Int}{k:Nat}(h:k<fO l n)(a:k<l.length):l[k]<=n:=by
 have:=List.not_of_lt_findIdx (p:=λx=>decide (n<x)) (xs:=l) h;have:=of_decide_eq_false (by simpa using this:decide (n<l[k])=false);omega
theorem zI {l:List Int}{n:Int}(h:fO l n<l.length):n<l[fO l n]:=by
 have:=List.findIdx_getElem (p:=λx=>decide (n<x)) (xs:=l) (w:=h);exact JU this
theorem zJ (l:List Int)(n:Int):fO l n<=l.length:=LX
theorem zK {t:List Nod}{name:Int}(h:∀ k,k<lvs t->¬((ats t (2*k)).kind=1/\(ats t (2*k)).name=name)):gd t name=false:=by
 refine IS λa=>?_
 have:=pX a;exact h _ a (JU this)
theorem az.upd {t:List Nod}(h:az t K)(a:(ats t (2*i)).kind=1){pub:List UInt8}(r:pub.length=32):az (bo t i pub) K:=by
 have v:i<2 ^ K:=by
  have d:=az.lt_of (t:=t) (x:=2*i) (by rw[a];decide);have n:=h.len2;omega
 have c:=h.updAt v pub;have m:=az.updLen (t:=t) i pub;have l:dx (ats t (2*i)).name pub:=by
  rcases h.even i with e|⟨_,_,e,_⟩
  ·rw[e] at a;cases a
  ·exact⟨e.1,e.2.1,r⟩
 refine⟨h.le,by rw[m,h.len],λx w=>?_,λx y j q g f=>?_,⟨2*i,by rw[m];exact az.lt_of (by rw[a];decide),by rw[c,if_pos rfl];rfl⟩⟩
 ·by_cases b:x=2*i
  ·refine .inr ?_
   rw[c,if_pos b];exact⟨by rw[b];show(1:Int)=_;omega,l,.inl rfl,λ_=>rfl,λn=>absurd n (show ¬(1:Int)=2 by decide)⟩
  ·by_cases p:x∈aC K 0 i
   ·exact .inl (by rw[c,if_neg b,if_pos p])
   ·refine zF (h.okA x) (by rw[c,if_neg b,if_neg p]) (λk u a=>?_) (zG _)
    rw[c];by_cases o:2*k=2*i
    ·rw[if_pos o];rfl
    ·rw[if_neg o,if_neg (λs=>by have:=eO s;omega)]
     exact a
 ·have a:∀ z,(ats (bo t i pub) z).kind=1->(ats t z).kind=1/\(ats (bo t i pub) z).name=(ats t z).name:=λz d=>by
   rw[c] at d ⊢;by_cases b:z=2*i
   ·rw[if_pos b,b]
    exact⟨a,rfl⟩
   ·rw[if_neg b] at d ⊢
    split at d
    ·cases d
    ·next e=>rw[if_neg e];exact⟨d,rfl⟩
  rw[(a x g).2,(a y f).2];exact h.one x y j (by rw[<-m];exact q) (a x g).1 (a y f).1
theorem zL {t:List Nod}(h:az t K):∀ (j q:Nat),j<=K->q<2 ^ (K - j)->∀ l∈bm t j q,∃ y:Nat,l=(y:Int)/\y<t.length/\(ats t y).kind≠0:=by
 have b:∀ (j q:Nat),j<=K->q<2 ^ (K - j)->(ats t (nd j q)).kind≠0->∀ l∈(((nd j q:Nat):Int) :: (ats t (nd j q)).un.map (2*·)),∃ y:Nat,l=(y:Int)/\y<t.length/\(ats t y).kind≠0:=by
  intro j q f d c l a
  obtain⟨_,m,i⟩:=dX h.le f d
  rcases JP.1 a with rfl|a
  ·exact⟨_,rfl,az.lt_of c,c⟩
  ·obtain⟨u,n,rfl⟩:=Ju.1 a
   obtain⟨k,rfl,_,g⟩:=h.unAt m i u n
   exact⟨2*k,by omega,az.lt_of (by rw[g];decide),by rw[g];decide⟩
 intro j
 induction j with
 | zero=>
  intro q f d l a
  unfold bm at a
  by_cases c:(ats t (nd 0 q)).kind=0
  ·rw[if_pos c] at a;simp at a
  ·rw[if_neg c] at a
   exact b 0 q f d c l a
 | succ j ih=>
  intro q f d l a
  unfold bm at a
  by_cases c:(ats t (nd (j+1) q)).kind=0
  ·rw[if_pos c] at a
   have e:K - j=(K - (j+1))+1:=by omega
   have o:=bj (K - (j+1))
   rcases Jy.1 a with a|a
   ·exact ih (2*q) (by omega) (by rw[e];omega) l a
   ·exact ih (2*q+1) (by omega) (by rw[e];omega) l a
  ·rw[if_neg c] at a
   exact b (j+1) q f d c l a
theorem nX {t:List Nod}(h:az t K)(b:j<=K)(a:q<2 ^ (K - j)):gi t ((nd j q:Nat):Int)=bm t j q:=by
 have d:=fq b a;have c:=h.le;unfold gi;rw[if_pos ⟨by omega,by rw[h.len];omega⟩,IM,fJ j q (by omega),kd j q (by omega)]
theorem az.there_iff {t:List Nod}(h:az t K)(k:Nat):bd t (k:Int)↔(ats t (2*k)).kind=1:=by
 constructor
 ·intro b
  have:=b.2.2;rwa [IM] at this
 ·intro a
  have:=az.lt_of (t:=t) (x:=2*k) (by rw[a];decide);exact⟨by omega,by unfold lvs;omega,by rw[IM];exact a⟩
theorem az.new {name:Int}{pub:List UInt8}(h:dx name pub):az [aD name pub] 0:=by
 have e:ats [aD name pub] 0=aD name pub:=rfl;refine⟨by omega,rfl,λx c=>?_,λx y b a=>by simp at a;omega,⟨0,by simp,rfl⟩⟩;have:x=0:=by simpa using c
 subst this;rw[show okP [aD name pub] 0↔_ from Iff.rfl];exact .inr ⟨rfl,h,.inl rfl,λ_=>rfl,λd=>absurd d (show ¬(1:Int)=2 by decide)⟩
def leads (v:Value)(k:Nat):Prop:=∃ x n c,v=.slice (some x) n c/\0<n/\x.block=k
def yk (P:Program)(gf:Nat)(lb:Array Value)(T:Nat->Value->(Nat->Prop)->World->Prop)(N:Nat)(R:Nat->Prop)(w:World):Prop:=
 ∀ (l:Nat) (J Jx:Nat->(Nat->Prop)->World->Prop) (W:World),aN R w W->w.heap.size<=l->l<W.heap.size ->
  (∀ i,dw W.heap.size (J i))->(∀ i,dw W.heap.size (Jx i))->(∀ Y A,¬J N Y A) ->
  (∀ i Y A v m,i<N->J i Y A->(∀ k,Y k->W.heap.size<=k/\k<A.heap.size)->aN R w A->T i v Y A ->
   YieldAt Fence.wide m P l #[v] A λe B=>aN (λk=>Y k\/R k) A B/\((e=.returned (.bool true)/\J (i+1) (λk=>Y k/\¬leads v k) B)\/(e=.returned (.bool false)/\Jx i (λk=>Y k/\¬leads v k) B))) ->
  J 0 (λ_=>False) W ->
  Calls P gf (#[.func (.yield l) #[] #[]]++lb) W λe B=>(∃ v,e=.returned v)/\∃ Y,(∀ k,Y k->W.heap.size<=k/\k<B.heap.size)/\(J N Y B\/∃ i,i<N/\Jx i Y B)
theorem GO {assign body:Code}
    (hg:a.eval g=.func (.func gf) #[] lb) (eg:∀ args w,(callFunc gf args).run P w=.ok (.enter gf args) w)
      (ah:Kp w0 w) (ar:∀ k,R k->k<w0.heap.size) (aA:yk P gf lb T N R w0) (aK:ps.size=1)
  (I:Nat->(Nat->Prop)->World->Prop) (Ix:Code->Nat->(Nat->Prop)->World->Prop)
  (hI:∀ i,dw w.heap.size (I i)) (av:∀ c i,dw w.heap.size (Ix c i))
  (aY:∀ Y A,¬I N Y A) (aF:∀ i v Y A,T i v Y A->∀ k,leads v k->Y k\/R k)
  (aU:∀ i v j Y A B l o,T i v j A->(∀ k,j k->Y k)->(∀ k,Y k->j k\/∃ o:Obj,A.heap[k]?=some o/\o.isCells=false)->w.heap.size<=l->A.heap[l]?=some (.loop o)->aj (λk=>k=l) A B->T i v Y B)
  (h0:I 0 (λ_=>False) w) (Ax:Value->Act->World->Prop)
  (a1:∀ v S A l o o',Ax v S A->w.heap.size<=l->A.heap[l]?=some (.loop o)->Ax v S (A.putObj l o'))
  (af:∀ (l i:Nat) (Y j:Nat->Prop) (v:Value) (A:World) (K:Act->World->Prop),I i Y A->T i v j A->(∀ S A',Kp A A'->Ax v S A'->K S A') ->
   assign.wpIn (Fence.wide.inRound l) 4 P (Exit.then K (λ_ _ _=>False)) { tmps:=(ps.zip #[v]).foldl (λt (p,v)=>t.setIfInBounds p v) a.tmps,defers:=[] } A)
  (aq:∀ (l i:Nat) (Y:Nat->Prop) (v:Value) (S:Act) (A:World),i<N->I i Y A->(∀ k,Y k->w.heap.size<=k/\k<A.heap.size)->aN R w A->T i v Y A->Ax v S A ->
   body.wpIn (Fence.wide.inRound l) 4 P (λe _ B=>aN (λk=>Y k\/R k) A B/\((e=.normal/\I (i+1) (λk=>Y k/\¬leads v k) B)\/∃ c,kh e=some c/\Ix c i (λk=>Y k/\¬leads v k) B)) S A)
  (ap:∀ (D:Nat) (Y:Nat->Prop) (W:World),w.heap.size<=D->Y D->(∀ k,Y k->w.heap.size<=k)->I N Y W->W.heap[D]?=some (.deferred (some []))->Q .normal { a with defers:={ target:=.collected D,args:=#[] } :: a.defers } W)
  (ak:∀ (D:Nat) (c:Code) (i:Nat) (Y:Nat->Prop) (W:World),w.heap.size<=D->Y D->(∀ k,Y k->w.heap.size<=k)->i<N->Ix c i Y W->W.heap[D]?=some (.deferred (some []))->c.wp P Q { a with defers:={ target:=.collected D,args:=#[] } :: a.defers } W):
  (Code.rangeFunc g ps assign body).wp P Q a w:=by
 have hR:∀ k,R k->k<w.heap.size:=λk b=>II (ar k b) ah.size
 refine(wpIn_wide (n:=6)).1 (wpIn_rangeFunc ?_);intro fn aO;rw[show Fence.wide.round=none from rfl];let rec':LoopState->Option Code->Loop:=λst pe=>{ state:=st,pending:=pe,fn,tmps:=a.tmps,params:=ps,assign,body,defers:=w.heap.size }
 obtain⟨L,ag⟩:∃ L,(w.alloc (.deferred (some []))).alloc (.loop (rec' .ready none))=L:=⟨_,rfl⟩;have a0:L.heap[w.heap.size]?=some (.deferred (some [])):=by
  rw[<-ag];exact(Below.heap_alloc _ _ _ (by simp)).trans (heap_alloc_new w _)
 have aX:L.heap[w.heap.size+1]?=some (.loop (rec' .ready none)):=by
  rw[<-ag];have:=heap_alloc_new (w.alloc (.deferred (some []))) (.loop (rec' .ready none));rwa [IQ] at this
 have a2:L.heap.size=w.heap.size+2:=by rw[<-ag];simp
 have aD:Kp w L:=by rw[<-ag];exact((Kp.refl w).alloc _).alloc _
 let V:Nat->(Nat->Prop)->World->(Nat->Prop)->Prop:=λi j A Y=>I i Y A/\(∀ k,j k->Y k)/\(∀ k,Y k->j k\/k=w.heap.size\/k=w.heap.size+1)/\(∀ k,Y k->w.heap.size<=k/\k<A.heap.size)/\Y w.heap.size/\Y (w.heap.size+1) /\
  A.heap[w.heap.size]?=some (.deferred (some []))/\A.heap[w.heap.size+1]?=some (.loop (rec' .ready none))
 let Vx:Nat->(Nat->Prop)->World->(Nat->Prop)->Code->Prop:=λi j A Y c=>Ix c i Y A/\(∀ k,j k->Y k)/\(∀ k,Y k->j k\/k=w.heap.size\/k=w.heap.size+1)/\(∀ k,Y k->w.heap.size<=k/\k<A.heap.size)/\Y w.heap.size/\Y (w.heap.size+1) /\
  A.heap[w.heap.size]?=some (.deferred (some []))/\A.heap[w.heap.size+1]?=some (.loop (rec' .done (some c)))
 have hV:∀ i,dw L.heap.size (λj A=>∃ Y,V i j A Y):=by
  rintro i j ax A B ⟨Y,hi,s,z,d,q,f,hd,M⟩ y r ab;have al:¬j w.heap.size:=λe=>by have:=(y _ e).1;omega
  have H:¬j (w.heap.size+1):=λe=>by have:=(y _ e).1;omega
  have aw:=(d _ q).2;have au:=(d _ f).2;refine⟨λk=>ax k\/k=w.heap.size\/k=w.heap.size+1,hI i Y _ A B hi d (r.mono s) (λk b=>?_),λk b=>.inl b,λk b=>b,λk b=>?_,.inr (.inl rfl),.inr (.inr rfl),(r.block _ aw al).trans hd,(r.block _ au H).trans M⟩
  ·rcases b with b|rfl|rfl
   ·exact(ab k b).imp (s k) id
   ·exact .inl q
   ·exact .inl f
  ·have:=r.size
   rcases b with b|rfl|rfl
   ·rcases ab k b with h|h
    ·have:=d k (s k h);omega
    ·have:=d _ q;omega
   ·omega
   ·omega
 have aS:∀ i,dw L.heap.size (λj A=>∃ Y c,Vx i j A Y c):=by
  rintro i j ax A B ⟨Y,c,hi,s,z,d,q,f,hd,M⟩ y r ab;have al:¬j w.heap.size:=λe=>by have:=(y _ e).1;omega
  have H:¬j (w.heap.size+1):=λe=>by have:=(y _ e).1;omega
  have aw:=(d _ q).2;have au:=(d _ f).2;refine⟨λk=>ax k\/k=w.heap.size\/k=w.heap.size+1,c,av c i Y _ A B hi d (r.mono s) (λk b=>?_),λk b=>.inl b,λk b=>b,λk b=>?_,.inr (.inl rfl),.inr (.inr rfl),(r.block _ aw al).trans hd,(r.block _ au H).trans M⟩
  ·rcases b with b|rfl|rfl
   ·exact(ab k b).imp (s k) id
   ·exact .inl q
   ·exact .inl f
  ·have:=r.size
   rcases b with b|rfl|rfl
   ·rcases ab k b with h|h
    ·have:=d k (s k h);omega
    ·have:=d _ q;omega
   ·omega
   ·omega
 refine⟨w.heap.size+1,[{ target:=.collected w.heap.size,args:=#[] }],L,{ target:=.fn (.func gf) lb,args:=#[.func (.yield (w.heap.size+1)) #[] #[]] },L,gf,
  #[.func (.yield (w.heap.size+1)) #[] #[]]++lb,L,?_,?_,?_,?_,λ_=>by omega,?_⟩
 ·rw[<-ag];exact run_enterLoop_outer _ _ _ _ _
 ·simp only[resolve,hg]
  simp[go_sem]
 ·intro f' a4
  trivial
 ·simp[invoke,go_sem,eg]
 ·refine callsIn_wide.2 ((aA (w.heap.size+1) (λi j A=>∃ Y,V i j A Y) (λi j A=>∃ Y c,Vx i j A Y c) L (aN.of_kp (ah.trans aD)) (by have:=ah.size;omega) (by omega) hV aS (λj A ⟨Y,h⟩=>aY Y A h.1) ?_
   ⟨λk=>k=w.heap.size\/k=w.heap.size+1,hI 0 _ _ w L h0 (λk b=>b.elim) (aj.of_kp aD) (λk b=>.inr (by rcases b with rfl|rfl <;> omega)),λk b=>b.elim,λk b=>.inr b,λk b=>by rcases b with rfl|rfl <;> omega,.inl rfl,.inr rfl,a0,aX⟩).mono ?_)
  ·rintro i j A v m hi ⟨Y,aI,s,z,d,q,f,hd,M⟩ y aH hT
   have aW:aN R w A:=⟨by have:=(d _ f).2;omega,λk _ hr=>(aH.block k (ar k hr) hr).trans (ah.block k (ar k hr)).symm⟩;have am:w.heap.size+1<A.heap.size:=(d _ f).2;have hy:=run_yield (P:=P) (args:=#[v]) M (by show(#[v]:Array Value).size=ps.size;rw[aK];rfl);have aT:∀ B,aj (λk=>k=w.heap.size+1) A B->T i v Y B:=λB hB=>aU i v j Y A B _ _ hT s (λk b=>(z k b).imp id (λh=>h.elim (λe=>⟨_,e▸hd,rfl⟩) (λe=>⟨_,e▸M,rfl⟩))) (by omega) M hB
   have aV:∀ k,R k->k≠w.heap.size+1:=λk b=>by have:=hR k b;omega
   refine YieldAt.anyDepth m (m:=4) ⟨fn,_,assign,body,hy,roundIn_of_wpIn aO (af _ i Y j v A _ aI hT ?_)⟩;intro S A1 aa aR;have an:=(aa.block _ am).trans M;have aQ:=(aa.block _ (d _ q).2).trans hd;refine⟨_,run_beginRound an rfl,?_⟩;have aC:w.heap.size+1<A1.heap.size:=(Iz.1 an).1;obtain⟨G,C⟩:∃ G,A1.putObj (w.heap.size+1) (.loop { rec' .ready none with state:=.busy })=G:=⟨_,rfl⟩;rw[C];have az:aj (λk=>k=w.heap.size+1) A G:=by rw[<-C];exact(aj.of_kp aa).putObj _ _ (.inr rfl)
   have r:aj Y A G:=by rw[<-C];exact(aj.of_kp aa).putObj _ _ (.inr f)
   have aL:G.heap[w.heap.size+1]?=some (.loop { rec' .ready none with state:=.busy }):=by rw[<-C];exact World.putObj_heap_same aC
   have aP:G.heap[w.heap.size]?=some (.deferred (some [])):=by rw[<-C];exact(World.putObj_heap_other (by omega)).trans aQ
   have aE:Ax v S G:=by rw[<-C];exact a1 v S A1 _ _ _ aR (by omega) an
   have E:∀ k,Y k->w.heap.size<=k/\k<G.heap.size:=λk b=>⟨(d k b).1,II (d k b).2 r.size⟩
   have aZ:=hI i Y Y A G aI d r (λk b=>.inl b);have aG:aN R w G:=(aW.trans (aN.of_step r (λk b hy=>by have:=hR k b;have:=(d k hy).1;omega)));refine wpIn_mono (aq _ i Y v S G hi aZ E aG (aT G az) aE) ?_;have aJ:∀ (u:Option Code) (B:World),aN (λk=>Y k\/R k) G B->∃ x,(Instr.endRound (w.heap.size+1) u).run P B=.ok (.bool u.isNone) x /\
     x.heap[w.heap.size+1]?=some (.loop (rec' (if u.isNone then .ready else .done) u))/\x.heap[w.heap.size]?=some (.deferred (some []))/\(∀ Z:Nat->Prop,Z (w.heap.size+1)->aj Z B x)/\(∀ k,Y k->w.heap.size<=k/\k<B.heap.size)/\aN (λk=>j k\/R k) A x:=λu B hh=>by
    have J:=(hh.block _ (E _ f).2 (.inl f)).trans aL;have ae:=(hh.block _ (E _ q).2 (.inl q)).trans aP;have aB:w.heap.size+1<B.heap.size:=(Iz.1 J).1;have H:∀ k,j k\/R k->k≠w.heap.size+1:=λk b=>by
     rcases b with h|h
     ·have:=(y _ h).1;omega
     ·exact aV k h
    refine⟨_,run_endRound (P:=P) u J,World.putObj_heap_same aB,(World.putObj_heap_other (by omega)).trans ae,λZ hZ=>(aj.refl Z B).putObj _ _ (.inr hZ),λk b=>⟨(d k b).1,II (E k b).2 hh.size⟩,⟨?_,λk b hr=>?_⟩⟩
    ·rw[lG];exact IU r.size hh.size
    ·have e1:G.heap[k]?=A.heap[k]?:=by
      rw[<-C];exact(World.putObj_heap_other (H k hr)).trans (aa.block k b)
     refine(World.putObj_heap_other (H k hr)).trans ((hh.block k (II b r.size) ?_).trans e1);exact hr.elim (λh=>.inl (s k h)) .inr
   have ay:∀ (u:Option Code) (B x:World),aj Y B x->(∀ k,Y k->w.heap.size<=k/\k<B.heap.size)->(∀ k,Y k->w.heap.size<=k/\k<x.heap.size):=λ_ B x h hy k b=>⟨(hy k b).1,II (hy k b).2 h.size⟩
   rintro e a3 B ⟨hh,hp⟩;have ai:¬leads v w.heap.size:=λh=>(aF i v j A hT _ h).elim (λh1=>by have:=(y _ h1).1;omega) λh1=>by have:=hR _ h1;omega
   have F:¬leads v (w.heap.size+1):=λh=>(aF i v j A hT _ h).elim (λh1=>by have:=(y _ h1).1;omega) λh1=>by have:=hR _ h1;omega
   have go:∀ c,kh e=some c->Ix c i (λk=>Y k/\¬leads v k) B->∃ v0 x,(Instr.endRound (w.heap.size+1) (some c)).run P B=.ok v0 x /\
     (aN (λk=>j k\/R k) A x/\((Ending.returned v0=.returned (.bool true)/\∃ Y,V (i+1) (λk=>j k/\¬leads v k) x Y)\/(Ending.returned v0=.returned (.bool false)/\∃ Y c,Vx i (λk=>j k/\¬leads v k) x Y c))):=λc O hx=>by
    obtain⟨x,hr,J,ae,X,U,ao⟩:=aJ (some c) B hh;exact⟨_,x,hr,ao,.inr ⟨rfl,λk=>Y k/\¬leads v k,c,av c i _ _ B x hx (λk b=>U k b.1) (X _ ⟨f,F⟩) (λk b=>.inl b),λk b=>⟨s k b.1,b.2⟩,λk b=>(z k b.1).imp (λh=>⟨h,b.2⟩) id,λk b=>ay none B x (X Y f) U k b.1,⟨q,ai⟩,⟨f,F⟩,ae,J⟩⟩
   cases e with
   | normal=>
    rcases hp with⟨_,hi3⟩|⟨c,O,_⟩
    ·obtain⟨x,hr,J,ae,X,U,ao⟩:=aJ none B hh
     exact⟨_,x,hr,ao,.inl ⟨rfl,λk=>Y k/\¬leads v k,hI (i+1) _ _ B x hi3 (λk b=>U k b.1) (X _ ⟨f,F⟩) (λk b=>.inl b),λk b=>⟨s k b.1,b.2⟩,λk b=>(z k b.1).imp (λh=>⟨h,b.2⟩) id,λk b=>ay none B x (X Y f) U k b.1,⟨q,ai⟩,⟨f,F⟩,ae,J⟩⟩
    ·cases O
   | ret=>
    rcases hp with⟨h,_⟩|⟨c,O,hx⟩
    ·cases h
    ·cases O;exact go _ rfl hx
   | exit id=>
    rcases hp with⟨h,_⟩|⟨c,O,hx⟩
    ·cases h
    ·cases O;exact go _ rfl hx
   | goto t=>
    rcases hp with⟨h,_⟩|⟨c,O,hx⟩
    ·cases h
    ·cases O;exact go _ rfl hx
   | panic ch=>
    rcases hp with⟨h,_⟩|⟨c,O,_⟩
    ·cases h
    ·cases O
   | outgrown=>
    rcases hp with⟨h,_⟩|⟨c,O,_⟩
    ·cases h
    ·cases O
  ·rintro e W2 ⟨⟨v,rfl⟩,j,y,(⟨Y,hi,s,z,d,q,f,hd,M⟩|⟨i,aM,Y,c,hi,s,z,d,q,f,hd,M⟩)⟩
   ·have am:w.heap.size+1<W2.heap.size:=(d _ f).2
    have ad:(Instr.endLoop (w.heap.size+1)).run P W2=.ok none (W2.putObj (w.heap.size+1) (.loop (rec' .exhausted none))):=run_endLoop (P:=P) M (by simp[rec']);refine⟨none,_,ad,ap _ Y _ (IB _) q (λk b=>(d k b).1) (hI N Y Y W2 _ hi d ((aj.refl _ _).putObj _ _ (.inr f)) (λk b=>.inl b)) ((World.putObj_heap_other (by omega)).trans hd)⟩
   ·have am:w.heap.size+1<W2.heap.size:=(d _ f).2
    have ad:(Instr.endLoop (w.heap.size+1)).run P W2=.ok (some c) (W2.putObj (w.heap.size+1) (.loop (rec' .exhausted (some c)))):=run_endLoop (P:=P) M (by simp[rec']);exact⟨some c,_,ad,wpIn_wide.2 (ak _ c i Y _ (IB _) q (λk b=>(d k b).1) aM (av c i Y Y W2 _ hi d ((aj.refl _ _).putObj _ _ (.inr f)) (λk b=>.inl b)) ((World.putObj_heap_other (by omega)).trans hd))⟩

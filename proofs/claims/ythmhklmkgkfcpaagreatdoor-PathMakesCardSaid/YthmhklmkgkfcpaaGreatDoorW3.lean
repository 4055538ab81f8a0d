import Derived.Test.YthmhklmkgkfcpaaGreatDoorW2
import Derived.Lib.SmallJoins
import Derived.Lib.LaidTab
import Derived.Stop.LaidErr
import Derived.Deep.DeepHandedRow
set_option linter.all false
set_option maxHeartbeats 8000000
set_option maxRecDepth 100000
namespace Go.Proofs.YthmhklmkgkfcpaaGreatDoor
open Go.Proofs.Tryz Go.RowKit
variable {A B W w:World}{P:Program}{R Y:Nat->Prop}{l m:Nat}{p:Addr}{v:Value}
theorem zB {n:Int}(h:∀ i,i<=10->n≠((2 ^ i:Nat):Int)):cm n=false:=by
 rw[Lg];intro b;obtain⟨K,a,e⟩:=(mj n).1 b;exact h K a e
theorem tB (n:Int)(w:World):Calls prog 78 #[.int .i64 n] w λe w'=>e=.returned (.bool (cm n))/\w=w':=by
 have q:Hid (∀ k,k<10->(((2 ^ k:Nat):Int))<1024/\(2*((2 ^ k:Nat):Int))=((2 ^ (k+1):Nat):Int)):=λk p=>by
  have:(2:Nat) ^ k<2 ^ 10:=Nat.pow_lt_pow_right (by omega) p;have s:=bi k;exact⟨by omega,by omega⟩
 have l:Hid (∀ k,k<=10->n=((2 ^ k:Nat):Int)->cm n=true):=λk p e=>by rw[e];exact mi k p
 have d:Hid ((∀ i,i<=10->n≠((2 ^ i:Nat):Int))->cm n=false):=zB;generalize cm n=b at *;go_enter func78,ntmps78;go_wp2_with fail;go_loop [3] (λm=>∃ k:Nat,k<=10/\m=.int .i64 ((2 ^ k:Nat):Int)/\∀ i,i<k->n≠((2 ^ i:Nat):Int)) (λm=>(1024 - (intOf m).toNat))
 case atStart=>exact⟨0,by omega,rfl,λi h=>by omega⟩
 case round=>
  obtain⟨k,p,rfl,a⟩:=hrel;by_cases u:k<10
  ·obtain⟨F,s⟩:=q.out k u
   have j:=l.out k p;have y:Hid (n≠((2 ^ k:Nat):Int)->∀ i,i<k+1->n≠((2 ^ i:Nat):Int)):=λc i v=>by
    rcases JC (JN.1 v) with f|f
    ·exact a i f
    ·rw[f];exact c
   have z:(1:Int)<=((2 ^ k:Nat):Int):=by have:=bC k;exact_mod_cast this
   generalize ((2 ^ k:Nat):Int)=m at *;have t:0<=m\/m<0:=by omega
   by_cases c:n=m
   ·have r:=Lib.hid (j c)
    subst c;clear j y l d s a q;go_wp2;go_ret;exact⟨by rw[r.out];rfl,rfl⟩
   ·have o:¬m=n:=λh=>c h.symm
    have x:=Lib.hid (y.out c);have C:=Lib.hid s;by_cases E:0<=m
    ·have D:IntKind.i64.wrap (2*m)=2*m:=IW _ (by omega)
     have B:1<=m:=z;clear j y l d s a q c t;go_wp2;go_round
     case rel=>exact⟨k+1,by omega,by rw[<-C.out],x.out⟩
     case measure=>simp[intOf];omega
    ·exfalso
     have:0<=((2 ^ (k+1):Nat):Int):=Int.natCast_nonneg _;omega
  ·obtain rfl:k=10:=by omega
   have g:((2 ^ 10:Nat):Int)=1024:=rfl;rw[g];by_cases c:n=1024
   ·have r:=Lib.hid (l.out 10 (by omega) (by rw[c];rfl))
    subst c;clear l d a q g;go_wp2;go_ret;exact⟨by rw[r.out];rfl,rfl⟩
   ·have r:=Lib.hid (d.out (λi v=>by
     rcases JC v with f|f
     ·exact a i f
     ·rw[f];exact c))
    have o:¬(1024:Int)=n:=λh=>c h.symm
    have A:((1024:Int)==n)=false:=Jd.2 o;clear l d a q g c;go_wp2;go_ret;exact⟨by rw[r.out];rfl,rfl⟩
theorem mv (x n:Int)(w:World)(j:-9223372036854775808<=n/\n<=9223372036854775807):Calls prog 95 #[.int .i64 x,.int .i64 n] w λe w'=>e=.returned (.bool (inB x n))/\w=w':=by
 have c:=Lib.hid (tB n w);by_cases b:cm n=true
 ·have i:=mm b
  have l:IntKind.i64.wrap (2*n)=2*n:=IW _ (by omega);have k:IntKind.i64.wrap (2*n - 1)=2*n - 1:=IW _ (by omega);have f:Hid (inB x n=(decide (0<=x) && decide (x<2*n - 1))):=by unfold inB;rw[b];rfl
  rw[b] at c;rw[f.out];clear b i;by_cases g:0<=x
  ·have d:(decide (0<=x) && decide (x<2*n - 1))=decide (x<2*n - 1):=by simp[g]
   rw[d];go_enter func95,ntmps95;go_wp2_with fail;refine c.out.mono ?_;rintro _ _ ⟨rfl,rfl⟩;go_wp2_with fail;go_ret;exact⟨rfl,rfl⟩
  ·have d:(decide (0<=x) && decide (x<2*n - 1))=false:=by simp;intro h;omega
   rw[d];go_enter func95,ntmps95;go_wp2_with fail;refine c.out.mono ?_;rintro _ _ ⟨rfl,rfl⟩;go_wp2_with fail;go_ret;exact⟨rfl,rfl⟩
 ·have a:cm n=false:=by rw[Lg];exact b
  have f:Hid (inB x n=false):=by unfold Hid inB;rw[a];rfl
  rw[a] at c;rw[f.out];clear b a;go_enter func95,ntmps95;go_wp2_with fail;refine c.out.mono ?_;rintro _ _ ⟨rfl,rfl⟩;go_wp2_with fail;go_ret;exact⟨rfl,rfl⟩
theorem zC (n:Int)(w:World):Calls prog 75 #[.int .i64 n] w λe w'=>e=.returned (.tuple #[.int .i64 (gn n),.int .i64 (gi n)])/\w=w':=by
 have c:=Lib.hid (tB n w);by_cases a:cm n=true
 ·have d:=mm a
  have g:IntKind.i64.wrap (2*n)=2*n:=IW _ (by omega);have f:IntKind.i64.wrap (2*n - 1)=2*n - 1:=IW _ (by omega);rw[show gn n=2*n - 1 from if_pos a,show gi n=0 from if_pos a];rw[a] at c;clear a d;go_enter func75,ntmps75;go_wp2_with fail;refine c.out.mono ?_;rintro _ _ ⟨rfl,rfl⟩;go_wp2_with fail;go_ret2;exact⟨rfl,rfl⟩
 ·have b:cm n=false:=by rw[Lg];exact a
  rw[show gn n=0 from if_neg a,show gi n=1 from if_neg a];rw[b] at c;clear a b;go_enter func75,ntmps75;go_wp2_with fail;refine c.out.mono ?_;rintro _ _ ⟨rfl,rfl⟩;go_wp2_with fail;go_ret2;exact⟨rfl,rfl⟩
theorem tC (j q:Nat):((nd (j+1) q:Nat):Int).tmod 2=1:=by
 have:=jt j q;rw[JF (by omega)];omega
theorem tD (q:Nat):((nd 0 q:Nat):Int).tmod 2=0:=by
 have:=kO q;rw[JF (by omega)];omega
theorem zD (j q:Nat):((nd (j+1) q:Nat):Int).tdiv 2=((nd j q:Nat):Int):=by
 have:=tb j q;rw[JK (by omega)];omega
theorem zE (j q:Nat)(w:World)(r:j<=10)(m:q<2 ^ (10 - j)):Calls prog 82 #[.int .i64 ((nd j q:Nat):Int)] w λe w'=>e=.returned (.int .i64 (j:Int))/\w=w':=by
 obtain⟨B,A⟩:=(eC ((nd j q:Nat):Int)).2 ⟨j,q,rfl,r,m⟩;have d:Hid (∀ i,i<=j->0<=((nd i q:Nat):Int)/\((nd i q:Nat):Int)<=2046):=λi s=>(eC ((nd i q:Nat):Int)).2 ⟨i,q,rfl,by omega,Jh m (Kd (by omega) (by omega))⟩
 have g:=Lib.hid (λi=>tC i q);have h:=Lib.hid (tD q);have l:=Lib.hid (λi=>zD i q);obtain⟨f,o⟩:∃ f:Nat->Int,f=λi=>((nd i q:Nat):Int):=⟨_,rfl⟩
 have b:∀ i,((nd i q:Nat):Int)=f i:=λi=>by rw[o]
 simp only[b] at *;clear o b;go_enter func82,ntmps82;go_wp2_with fail;go_loop [3,4] (λk y=>∃ i:Nat,i<=j/\k=.int .i64 ((j - i:Nat):Int)/\y=.int .i64 (f i)) (λk _=>(j - (intOf k).toNat))
 case atStart=>exact⟨j,Ja _,by simp,rfl⟩
 case round=>
  obtain⟨i,s,rfl,rfl⟩:=hrel;cases i with
  | zero=>
   have u:=h.out;clear d g h l;rw[MR];go_wp2;go_ret;exact⟨rfl,rfl⟩
  | succ i=>
   have u:=g.out i;have z:=l.out i;have t:=d.out i (by omega);have v:IntKind.i64.wrap (f i)=f i:=IW _ (by omega);obtain⟨k,n⟩:∃ k:Int,((j - (i+1):Nat):Int)=k:=⟨_,rfl⟩;have a:k+1=((j - i:Nat):Int):=by omega
   have p:0<=k/\k<=10:=by omega
   have x:IntKind.i64.wrap (k+1)=k+1:=IW _ (by omega);have c:=Lib.hid a;rw[n];clear d g h l t n a;go_wp2;go_round
   case rel=>exact⟨i,by omega,by rw[<-c.out],rfl⟩
   case measure=>have:=c.out;simp[intOf];omega
theorem zF (x:Int)(w:World)(h:¬okN x):Calls prog 82 #[.int .i64 x] w λe w'=>e=.returned (.int .i64 0)/\w=w':=by
 unfold okN at h;by_cases b:0<=x
 ·have a:¬x<=2046:=λa=>h ⟨b,a⟩
  clear h;go_enter func82,ntmps82;go_wp2_with fail;go_loop [3,4] (λk y=>k=.int .i64 0/\y=.int .i64 x) (λ_ _=>0)
  case atStart=>exact⟨rfl,rfl⟩
  case round=>
   obtain⟨rfl,rfl⟩:=hrel;go_wp2;go_ret;exact⟨rfl,rfl⟩
 ·clear h
  go_enter func82,ntmps82;go_wp2_with fail;go_loop [3,4] (λk y=>k=.int .i64 0/\y=.int .i64 x) (λ_ _=>0)
  case atStart=>exact⟨rfl,rfl⟩
  case round=>
   obtain⟨rfl,rfl⟩:=hrel;go_wp2;go_ret;exact⟨rfl,rfl⟩
theorem qq (x:Int)(w:World):Calls prog 82 #[.int .i64 x] w λe w'=>e=.returned (.int .i64 (eD x))/\w=w':=by
 by_cases h:okN x
 ·obtain⟨j,q,rfl,b,a⟩:=(eC x).1 h
  rw[fm b a];exact zE j q w b a
 ·rw[mn h]
  exact zF x w h
theorem tF (k:Nat)(w:World)(r:k<=20):Calls prog 83 #[.int .i64 (k:Int)] w λe w'=>e=.returned (.int .i64 ((2 ^ k:Nat):Int))/\w=w':=by
 have j:Hid (∀ i,i<k->0<=((2 ^ i:Nat):Int)/\((2 ^ i:Nat):Int)<=1048576/\2*((2 ^ i:Nat):Int)=((2 ^ (i+1):Nat):Int)):=λi l=>by
  have o:(2:Nat) ^ i<=2 ^ 20:=Kd (by omega) (by omega);have m:=bi i;generalize 2 ^ (i+1)=N at *;generalize 2 ^ i=M at *;omega
 obtain⟨f,g⟩:∃ f:Nat->Int,f=λi=>((2 ^ i:Nat):Int):=⟨_,rfl⟩
 have a:∀ i,((2 ^ i:Nat):Int)=f i:=λi=>by rw[g]
 have b:f 0=1:=by rw[g];rfl
 simp only[a] at *;clear g a;have c:=Lib.hid b;clear b;go_enter func83,ntmps83;go_wp2_with fail;go_loop [3,4] (λn y=>∃ i:Nat,i<=k/\n=.int .i64 (f i)/\y=.int .i64 (i:Int)) (λ_ y=>(k - (intOf y).toNat))
 case atStart=>exact⟨0,Jl _,by rw[c.out],rfl⟩
 case round=>
  obtain⟨i,l,rfl,rfl⟩:=hrel;by_cases d:i<k
  ·obtain⟨o,m,h⟩:=j.out i d
   have p:=Lib.hid h;have q:IntKind.i64.wrap (2*f i)=2*f i:=IW _ (by omega);clear j h c;go_wp2;go_round
   case rel=>exact⟨i+1,by omega,by rw[<-p.out],by go_num⟩
   case measure=>simp[intOf];omega
  ·obtain rfl:i=k:=by omega
   go_wp2;go_ret;exact⟨rfl,rfl⟩
structure am (Y:Nat->Prop)(A B:World):Prop where
 os:B.os=A.os
 tape:B.tape=A.tape
 output:B.output=A.output
 size:A.heap.size<=B.heap.size
 block:∀ k,k<A.heap.size->¬Y k->B.heap[k]?=A.heap[k]?
theorem am.refl (Y:Nat->Prop)(A:World):am Y A A:=⟨rfl,rfl,rfl,Ja _,λ_ _ _=>rfl⟩
theorem am.mono {Z:Nat->Prop}(h:am Y A B)(a:∀ k,Y k->Z k):am Z A B:=⟨h.os,h.tape,h.output,h.size,λk c b=>h.block k c (λe=>b (a k e))⟩
theorem am.of_kp (h:Kp A B):am Y A B:=⟨h.os,h.tape,h.output,h.size,λk a _=>h.block k a⟩
theorem am.below (h:am Y A B){n:Nat}(b:n<=A.heap.size)(a:∀ k,Y k->n<=k):Below n A B:=
 ⟨h.os,h.tape,h.output,h.size,λk c=>h.block k (by omega) (λe=>by have:=a k e;omega)⟩
theorem am.setCell (h:am Y A B)(p:Addr)(v:Value)(b:A.heap.size<=p.block\/Y p.block):am Y A (B.setCell p v):=
 ⟨h.os,h.tape,h.output,by simpa using h.size,λk c a=>(Below.heap_setCell B p v k (λe=>by subst e;exact b.elim (λd=>by omega) a)).trans (h.block k c a)⟩
theorem am.putObj (h:am Y A B)(l:Nat)(o:Obj)(b:A.heap.size<=l\/Y l):am Y A (B.putObj l o):=
 ⟨h.os,h.tape,h.output,by simpa using h.size,λk c a=>(World.putObj_heap_other (λe=>by subst e;exact b.elim (λd=>by omega) a)).trans (h.block k c a)⟩
theorem am.cell (h:am Y A B)(a:A.cell? p=some v)(b:¬Y p.block):B.cell? p=some v:=
 (Ll (w:=A) (h.block p.block (Jz A p a) b)).trans a
structure aT (R:Nat->Prop)(A B:World):Prop where
 size:A.heap.size<=B.heap.size
 block:∀ k,k<A.heap.size->R k->B.heap[k]?=A.heap[k]?
theorem aT.refl (R:Nat->Prop)(A:World):aT R A A:=⟨Ja _,λ_ _ _=>rfl⟩
theorem aT.trans {C:World}(h:aT R A B)(k:aT R B C):aT R A C:=
 ⟨Js h.size k.size,λi b a=>(k.block i (Jh b h.size) a).trans (h.block i b a)⟩
theorem aT.mono {S:Nat->Prop}(h:aT R A B)(b:∀ k,S k->R k):aT S A B:=⟨h.size,λk c a=>h.block k c (b k a)⟩
theorem aT.of_step (h:am Y A B)(c:∀ k,R k->¬Y k):aT R A B:=⟨h.size,λk b a=>h.block k b (c k a)⟩
theorem aT.of_kp (h:Kp A B):aT R A B:=⟨h.size,λk a _=>h.block k a⟩
theorem aT.cell (h:aT R A B)(a:A.cell? p=some v)(b:R p.block):B.cell? p=some v:=
 (Ll (w:=A) (h.block p.block (Jz A p a) b)).trans a
theorem Rd.turn {b:List UInt8}{o:Obj}(h:Rd A v b)(p:A.heap[l]?=some o)(n:o.isCells=false)(m:am (λk=>k=l) A B):Rd B v b:=by
 obtain⟨a,c,rfl,u,t,s,r⟩:=h;refine⟨a,c,rfl,u,t,s,λx j i q=>?_⟩;have g:=r x j i q;refine m.cell g (λe=>?_);obtain⟨o',d,f⟩:=cells_of_cell g;rw[e,p] at d;cases d;rw[n] at f;cases f
def kU (Y Y':Nat->Prop)(A B:World):Prop:=∀ k,Y' k->Y k\/(A.heap.size<=k/\k<B.heap.size)
def dO (B0:Nat)(J:(Nat->Prop)->World->Prop):Prop:=
 ∀ Y Y' A B,J Y A->(∀ k,Y k->B0<=k/\k<A.heap.size)->am Y A B->kU Y Y' A B->J Y' B
def oz (P:Program)(gf:Nat)(lb:Array Value)(T:Nat->Value->(Nat->Prop)->World->Prop)(N:Nat)(R:Nat->Prop)(w:World):Prop:=
 ∀ (l:Nat) (J Jx:Nat->(Nat->Prop)->World->Prop) (W:World),aT R w W->w.heap.size<=l->l<W.heap.size ->
  (∀ i,dO W.heap.size (J i))->(∀ i,dO W.heap.size (Jx i)) ->
  (∀ i Y A v m,i<N->J i Y A->(∀ k,Y k->W.heap.size<=k/\k<A.heap.size)->aT R w A->T i v Y A ->
   YieldAt Fence.wide m P l #[v] A λe B=>aT (λk=>Y k\/R k) A B/\((e=.returned (.bool true)/\J (i+1) Y B)\/(e=.returned (.bool false)/\Jx i Y B))) ->
  J 0 (λ_=>False) W ->
  Calls P gf (#[.func (.yield l) #[] #[]]++lb) W λe B=>(∃ v,e=.returned v)/\∃ Y,(∀ k,Y k->W.heap.size<=k/\k<B.heap.size)/\(J N Y B\/∃ i,i<N/\Jx i Y B)
def kV:Exit->Option Code
 | .ret=>some .ret
 | .exit id=>some (.exit id)
 | .goto t=>some (.goto t)
 | _=>none
theorem RoundIn.anyDepth {d:Nat}{f:FuncId}{tmps:Array Value}{a b:Code}{R:Ending->World->Prop}
 (h:RoundIn Fence.wide m P l f tmps a b w R):RoundIn Fence.wide d P l f tmps a b w R:=⟨h.1,λc cs _=>h.2 c cs (room_wide _)⟩
theorem YieldAt.anyDepth (c:Nat){args:Array Value}{R:Ending->World->Prop}(h:YieldAt Fence.wide m P l args W R):YieldAt Fence.wide c P l args W R:=by
 obtain⟨f,tmps,a,b,d,e⟩:=h;exact⟨f,tmps,a,b,d,RoundIn.anyDepth e⟩
theorem mw (w:World)(D:Nat)(o:Obj):(w.putObj D o).heap.size=w.heap.size:=by
 simp[World.putObj]
theorem tG {g:Operand}{ps:Array Tmp}{assign body:Code}{Q:Exit->Act->World->Prop}{a:Act}
  {gf:Nat} {lb:Array Value} (hg:a.eval g=.func (.func gf) #[] lb) (eg:∀ args w,(callFunc gf args).run P w=.ok (.enter gf args) w)
  {T:Nat->Value->(Nat->Prop)->World->Prop} {N:Nat}  {w0:World} (af:Kp w0 w) (ao:∀ k,R k->k<w0.heap.size) (ax:oz P gf lb T N R w0) (aG:ps.size=1)
  (I:Nat->(Nat->Prop)->World->Prop) (Ix:Code->Nat->(Nat->Prop)->World->Prop)
  (hI:∀ i,dO w.heap.size (I i)) (aq:∀ c i,dO w.heap.size (Ix c i))
  (aP:∀ i v q Y A B l o,T i v q A->(∀ k,q k->Y k)->(∀ k,Y k->q k\/∃ o:Obj,A.heap[k]?=some o/\o.isCells=false)->w.heap.size<=l->A.heap[l]?=some (.loop o)->am (λk=>k=l) A B->T i v Y B)
  (h0:I 0 (λ_=>False) w) (Ax:Value->Act->World->Prop)
  (aW:∀ v M A l o o',Ax v M A->w.heap.size<=l->A.heap[l]?=some (.loop o)->Ax v M (A.putObj l o'))
  (ad:∀ (l i:Nat) (Y q:Nat->Prop) (v:Value) (A:World) (K:Act->World->Prop),I i Y A->T i v q A->(∀ M A',Kp A A'->Ax v M A'->K M A') ->
   assign.wpIn (Fence.wide.inRound l) 4 P (Exit.then K (λ_ _ _=>False)) { tmps:=(ps.zip #[v]).foldl (λt (p,v)=>t.setIfInBounds p v) a.tmps,defers:=[] } A)
  (an:∀ (l i:Nat) (Y:Nat->Prop) (v:Value) (M:Act) (A:World),i<N->I i Y A->(∀ k,Y k->w.heap.size<=k/\k<A.heap.size)->aT R w A->T i v Y A->Ax v M A ->
   body.wpIn (Fence.wide.inRound l) 4 P (λe _ B=>aT (λk=>Y k\/R k) A B/\((e=.normal/\I (i+1) Y B)\/∃ c,kV e=some c/\Ix c i Y B)) M A)
  (al:∀ (D:Nat) (Y:Nat->Prop) (W:World),w.heap.size<=D->Y D->(∀ k,Y k->w.heap.size<=k)->I N Y W->W.heap[D]?=some (.deferred (some []))->Q .normal { a with defers:={ target:=.collected D,args:=#[] } :: a.defers } W)
  (ag:∀ (D:Nat) (c:Code) (i:Nat) (Y:Nat->Prop) (W:World),w.heap.size<=D->Y D->(∀ k,Y k->w.heap.size<=k)->i<N->Ix c i Y W->W.heap[D]?=some (.deferred (some []))->c.wp P Q { a with defers:={ target:=.collected D,args:=#[] } :: a.defers } W):
  (Code.rangeFunc g ps assign body).wp P Q a w:=by
 have hR:∀ k,R k->k<w.heap.size:=λk b=>Jh (ao k b) af.size
 refine(wpIn_wide (n:=6)).1 (wpIn_rangeFunc ?_);intro fn aJ;rw[show Fence.wide.round=none from rfl];let rec':LoopState->Option Code->Loop:=λst pe=>{ state:=st,pending:=pe,fn,tmps:=a.tmps,params:=ps,assign,body,defers:=w.heap.size }
 obtain⟨H,ae⟩:∃ H,(w.alloc (.deferred (some []))).alloc (.loop (rec' .ready none))=H:=⟨_,rfl⟩;have aV:H.heap[w.heap.size]?=some (.deferred (some [])):=by
  rw[<-ae];exact(Below.heap_alloc _ _ _ (by simp)).trans (heap_alloc_new w _)
 have aS:H.heap[w.heap.size+1]?=some (.loop (rec' .ready none)):=by
  rw[<-ae];have:=heap_alloc_new (w.alloc (.deferred (some []))) (.loop (rec' .ready none));rwa [Jn] at this
 have aX:H.heap.size=w.heap.size+2:=by rw[<-ae];simp
 have aA:Kp w H:=by rw[<-ae];exact((Kp.refl w).alloc _).alloc _
 let V:Nat->(Nat->Prop)->World->(Nat->Prop)->Prop:=λi q A Y=>I i Y A/\(∀ k,q k->Y k)/\(∀ k,Y k->q k\/k=w.heap.size\/k=w.heap.size+1)/\(∀ k,Y k->w.heap.size<=k/\k<A.heap.size)/\Y w.heap.size/\Y (w.heap.size+1) /\
  A.heap[w.heap.size]?=some (.deferred (some []))/\A.heap[w.heap.size+1]?=some (.loop (rec' .ready none))
 let Vx:Nat->(Nat->Prop)->World->(Nat->Prop)->Code->Prop:=λi q A Y c=>Ix c i Y A/\(∀ k,q k->Y k)/\(∀ k,Y k->q k\/k=w.heap.size\/k=w.heap.size+1)/\(∀ k,Y k->w.heap.size<=k/\k<A.heap.size)/\Y w.heap.size/\Y (w.heap.size+1) /\
  A.heap[w.heap.size]?=some (.deferred (some []))/\A.heap[w.heap.size+1]?=some (.loop (rec' .done (some c)))
 have hV:∀ i,dO H.heap.size (λq A=>∃ Y,V i q A Y):=by
  rintro i q au A B ⟨Y,hi,s,y,d,j,f,hd,J⟩ x r Z;have ah:¬q w.heap.size:=λe=>by have:=(x _ e).1;omega
  have F:¬q (w.heap.size+1):=λe=>by have:=(x _ e).1;omega
  have ar:=(d _ j).2;have ap:=(d _ f).2;refine⟨λk=>au k\/k=w.heap.size\/k=w.heap.size+1,hI i Y _ A B hi d (r.mono s) (λk b=>?_),λk b=>.inl b,λk b=>b,λk b=>?_,.inr (.inl rfl),.inr (.inr rfl),(r.block _ ar ah).trans hd,(r.block _ ap F).trans J⟩
  ·rcases b with b|rfl|rfl
   ·exact(Z k b).imp (s k) id
   ·exact .inl j
   ·exact .inl f
  ·have:=r.size
   rcases b with b|rfl|rfl
   ·rcases Z k b with h|h
    ·have:=d k (s k h);omega
    ·have:=d _ j;omega
   ·omega
   ·omega
 have aN:∀ i,dO H.heap.size (λq A=>∃ Y c,Vx i q A Y c):=by
  rintro i q au A B ⟨Y,c,hi,s,y,d,j,f,hd,J⟩ x r Z;have ah:¬q w.heap.size:=λe=>by have:=(x _ e).1;omega
  have F:¬q (w.heap.size+1):=λe=>by have:=(x _ e).1;omega
  have ar:=(d _ j).2;have ap:=(d _ f).2;refine⟨λk=>au k\/k=w.heap.size\/k=w.heap.size+1,c,aq c i Y _ A B hi d (r.mono s) (λk b=>?_),λk b=>.inl b,λk b=>b,λk b=>?_,.inr (.inl rfl),.inr (.inr rfl),(r.block _ ar ah).trans hd,(r.block _ ap F).trans J⟩
  ·rcases b with b|rfl|rfl
   ·exact(Z k b).imp (s k) id
   ·exact .inl j
   ·exact .inl f
  ·have:=r.size
   rcases b with b|rfl|rfl
   ·rcases Z k b with h|h
    ·have:=d k (s k h);omega
    ·have:=d _ j;omega
   ·omega
   ·omega
 refine⟨w.heap.size+1,[{ target:=.collected w.heap.size,args:=#[] }],H,{ target:=.fn (.func gf) lb,args:=#[.func (.yield (w.heap.size+1)) #[] #[]] },H,gf,
  #[.func (.yield (w.heap.size+1)) #[] #[]]++lb,H,?_,?_,?_,?_,λ_=>by omega,?_⟩
 ·rw[<-ae];exact run_enterLoop_outer _ _ _ _ _
 ·simp only[resolve,hg]
  simp[go_sem]
 ·intro f' aY
  trivial
 ·simp[invoke,go_sem,eg]
 ·refine callsIn_wide.2 ((ax (w.heap.size+1) (λi q A=>∃ Y,V i q A Y) (λi q A=>∃ Y c,Vx i q A Y c) H (aT.of_kp (af.trans aA)) (by have:=af.size;omega) (by omega) hV aN ?_
   ⟨λk=>k=w.heap.size\/k=w.heap.size+1,hI 0 _ _ w H h0 (λk b=>b.elim) (am.of_kp aA) (λk b=>.inr (by rcases b with rfl|rfl <;> omega)),λk b=>b.elim,λk b=>.inr b,λk b=>by rcases b with rfl|rfl <;> omega,.inl rfl,.inr rfl,aV,aS⟩).mono ?_)
  ·rintro i q A v m hi ⟨Y,aE,s,y,d,j,f,hd,J⟩ x aD hT
   have aR:aT R w A:=⟨by have:=(d _ f).2;omega,λk _ U=>(aD.block k (ao k U) U).trans (af.block k (ao k U)).symm⟩;have ai:w.heap.size+1<A.heap.size:=(d _ f).2;have hy:=run_yield (P:=P) (args:=#[v]) J (by show(#[v]:Array Value).size=ps.size;rw[aG];rfl);have aO:∀ B,am (λk=>k=w.heap.size+1) A B->T i v Y B:=λB hB=>aP i v q Y A B _ _ hT s (λk b=>(y k b).imp id (λh=>h.elim (λe=>⟨_,e▸hd,rfl⟩) (λe=>⟨_,e▸J,rfl⟩))) (by omega) J hB
   have aQ:∀ k,R k->k≠w.heap.size+1:=λk b=>by have:=hR k b;omega
   refine YieldAt.anyDepth m (m:=4) ⟨fn,_,assign,body,hy,roundIn_of_wpIn aJ (ad _ i Y q v A _ aE hT ?_)⟩;intro M A1 X aM;have aj:=(X.block _ ai).trans J;have aL:=(X.block _ (d _ j).2).trans hd;refine⟨_,run_beginRound aj rfl,?_⟩;have az:w.heap.size+1<A1.heap.size:=(IX.1 aj).1;obtain⟨E,z⟩:∃ E,A1.putObj (w.heap.size+1) (.loop { rec' .ready none with state:=.busy })=E:=⟨_,rfl⟩;rw[z];have aw:am (λk=>k=w.heap.size+1) A E:=by rw[<-z];exact(am.of_kp X).putObj _ _ (.inr rfl)
   have r:am Y A E:=by rw[<-z];exact(am.of_kp X).putObj _ _ (.inr f)
   have aH:E.heap[w.heap.size+1]?=some (.loop { rec' .ready none with state:=.busy }):=by rw[<-z];exact World.putObj_heap_same az
   have aK:E.heap[w.heap.size]?=some (.deferred (some [])):=by rw[<-z];exact(World.putObj_heap_other (by omega)).trans aL
   have aB:Ax v M E:=by rw[<-z];exact aW v M A1 _ _ _ aM (by omega) aj
   have C:∀ k,Y k->w.heap.size<=k/\k<E.heap.size:=λk b=>⟨(d k b).1,Jh (d k b).2 r.size⟩
   have aU:=hI i Y Y A E aE d r (λk b=>.inl b);have aC:aT R w E:=(aR.trans (aT.of_step r (λk b hy=>by have:=hR k b;have:=(d k hy).1;omega)));refine wpIn_mono (an _ i Y v M E hi aU C aC (aO E aw) aB) ?_;have aF:∀ (u:Option Code) (B:World),aT (λk=>Y k\/R k) E B->∃ B',(Instr.endRound (w.heap.size+1) u).run P B=.ok (.bool u.isNone) B' /\
     B'.heap[w.heap.size+1]?=some (.loop (rec' (if u.isNone then .ready else .done) u))/\B'.heap[w.heap.size]?=some (.deferred (some []))/\am Y B B'/\(∀ k,Y k->w.heap.size<=k/\k<B.heap.size)/\aT (λk=>q k\/R k) A B':=λu B hh=>by
    have G:=(hh.block _ (C _ f).2 (.inl f)).trans aH;have ab:=(hh.block _ (C _ j).2 (.inl j)).trans aK;have ay:w.heap.size+1<B.heap.size:=(IX.1 G).1;have F:∀ k,q k\/R k->k≠w.heap.size+1:=λk b=>by
     rcases b with h|h
     ·have:=(x _ h).1;omega
     ·exact aQ k h
    refine⟨_,run_endRound (P:=P) u G,World.putObj_heap_same ay,(World.putObj_heap_other (by omega)).trans ab,(am.refl Y B).putObj _ _ (.inr f),λk b=>⟨(d k b).1,Jh (C k b).2 hh.size⟩,⟨?_,λk b U=>?_⟩⟩
    ·rw[mw];exact Js r.size hh.size
    ·have e1:E.heap[k]?=A.heap[k]?:=by
      rw[<-z];exact(World.putObj_heap_other (F k U)).trans (X.block k b)
     refine(World.putObj_heap_other (F k U)).trans ((hh.block k (Jh b r.size) ?_).trans e1);exact U.elim (λh=>.inl (s k h)) .inr
   have av:∀ (u:Option Code) (B B':World),am Y B B'->(∀ k,Y k->w.heap.size<=k/\k<B.heap.size)->(∀ k,Y k->w.heap.size<=k/\k<B'.heap.size):=λ_ B B' h hy k b=>⟨(hy k b).1,Jh (hy k b).2 h.size⟩
   rintro e a3 B ⟨hh,hp⟩;have go:∀ c,kV e=some c->Ix c i Y B->∃ v B',(Instr.endRound (w.heap.size+1) (some c)).run P B=.ok v B' /\
     (aT (λk=>q k\/R k) A B'/\((Ending.returned v=.returned (.bool true)/\∃ Y,V (i+1) q B' Y)\/(Ending.returned v=.returned (.bool false)/\∃ Y c,Vx i q B' Y c))):=λc L hx=>by
    obtain⟨B',U,G,ab,S,O,ak⟩:=aF (some c) B hh;exact⟨_,B',U,ak,.inr ⟨rfl,Y,c,aq c i Y Y B B' hx O S (λk b=>.inl b),s,y,av none B B' S O,j,f,ab,G⟩⟩
   cases e with
   | normal=>
    rcases hp with⟨_,hi3⟩|⟨c,L,_⟩
    ·obtain⟨B',U,G,ab,S,O,ak⟩:=aF none B hh
     exact⟨_,B',U,ak,.inl ⟨rfl,Y,hI (i+1) Y Y B B' hi3 O S (λk b=>.inl b),s,y,av none B B' S O,j,f,ab,G⟩⟩
    ·cases L
   | ret=>
    rcases hp with⟨h,_⟩|⟨c,L,hx⟩
    ·cases h
    ·cases L;exact go _ rfl hx
   | exit id=>
    rcases hp with⟨h,_⟩|⟨c,L,hx⟩
    ·cases h
    ·cases L;exact go _ rfl hx
   | goto t=>
    rcases hp with⟨h,_⟩|⟨c,L,hx⟩
    ·cases h
    ·cases L;exact go _ rfl hx
   | panic ch=>
    rcases hp with⟨h,_⟩|⟨c,L,_⟩
    ·cases h
    ·cases L
   | outgrown=>
    rcases hp with⟨h,_⟩|⟨c,L,_⟩
    ·cases h
    ·cases L
  ·rintro e W2 ⟨⟨v,rfl⟩,q,x,(⟨Y,hi,s,y,d,j,f,hd,J⟩|⟨i,aI,Y,c,hi,s,y,d,j,f,hd,J⟩)⟩
   ·have ai:w.heap.size+1<W2.heap.size:=(d _ f).2
    have aa:(Instr.endLoop (w.heap.size+1)).run P W2=.ok none (W2.putObj (w.heap.size+1) (.loop (rec' .exhausted none))):=run_endLoop (P:=P) J (by simp[rec']);refine⟨none,_,aa,al _ Y _ (Ja _) j (λk b=>(d k b).1) (hI N Y Y W2 _ hi d ((am.refl _ _).putObj _ _ (.inr f)) (λk b=>.inl b)) ((World.putObj_heap_other (by omega)).trans hd)⟩
   ·have ai:w.heap.size+1<W2.heap.size:=(d _ f).2
    have aa:(Instr.endLoop (w.heap.size+1)).run P W2=.ok (some c) (W2.putObj (w.heap.size+1) (.loop (rec' .exhausted (some c)))):=run_endLoop (P:=P) J (by simp[rec']);exact⟨some c,_,aa,wpIn_wide.2 (ag _ c i Y _ (Ja _) j (λk b=>(d k b).1) aI (aq c i Y Y W2 _ hi d ((am.refl _ _).putObj _ _ (.inr f)) (λk b=>.inl b)) ((World.putObj_heap_other (by omega)).trans hd))⟩
def Tab (w:World):Prop:=∀ i,i<64->w.cell? ⟨1,i,none⟩=some (.int .u8 ((Lib.deBruijn64tab.getD i 0:Nat):Int))
theorem Tab.kp {w':World}(h:Tab w)(k:Kp w w'):Tab w':=λi a=>k.cell (h i a)
theorem Tab.lt (h:Tab w):1<w.heap.size:=Jz w _ (h 0 (by omega))
theorem Tab.held (h:Tab A)(k:aT R A B)(a:R 1):Tab B:=λi b=>k.cell (h i b) a
theorem zG (x a:Nat)(d:x<18446744073709551616)(c:x≠0)(b:x &&& (18446744073709551616 - x)=a):
  IntKind.u64.wrap (bits BinOp.and IntKind.u64 (x:Int) (IntKind.u64.wrap (-(x:Int)))*285870213051353865) / 288230376151711744=((a*285870213051353865 % 18446744073709551616 / 288230376151711744:Nat):Int):=by
 have e:IntKind.u64.wrap (-(x:Int))=((18446744073709551616 - x:Nat):Int):=by rw[MG];omega
 rw[e,bits_and_u64_nat x _ d (by omega),b,MG];omega
theorem zH (x k a:Nat)(w:World)(c:((x:Int)==0)=false)
  (key:IntKind.u64.wrap (bits BinOp.and IntKind.u64 (x:Int) (IntKind.u64.wrap (-(x:Int)))*285870213051353865) / 288230376151711744=(a:Int))
  (f:a<64) (d:k<64) (b:w.cell? ⟨1,a,none⟩=some (.int .u8 k)):
  Calls prog 232 #[.int .u64 x] w λe w'=>e=.returned (.int .i64 k)/\w=w':=by
 go_enter func232,ntmps232;go_wp2_with(simp only[key])
 go_ret;exact⟨rfl,rfl⟩
theorem zI (x:Nat)(w:World)(f:x<18446744073709551616)(b:x≠0)(i:Tab w):
  Calls prog 232 #[.int .u64 x] w λe w'=>e=.returned (.int .i64 (Lib.ctz 64 x))/\w=w':=by
 obtain⟨d,g⟩:=Lib.lowest_bit 64 x b f;obtain⟨h,c⟩:=Lib.deBruijn64_at _ g;have a:=i _ h;rw[c] at a;exact zH x _ _ w (by simp;omega) (zG x _ f b d) h g a
theorem zJ (x:Nat)(w:World)(b:x<18446744073709551616)(a:x≠0)(c:Tab w):
  Calls prog 193 #[.int .u64 x] w λe w'=>e=.returned (.int .i64 (Lib.ctz 64 x))/\w=w':=by
 have H:=Lib.hid (zI x w b a c);clear b a c;go_enter func193,ntmps193;go_wp2_with fail;refine H.out.mono ?_;rintro _ _ ⟨rfl,rfl⟩;go_wp2_with fail;go_ret;exact⟨rfl,rfl⟩
theorem tH (n:Int)(w:World):Calls prog 161 #[.int .i64 n] w λe w'=>e=.returned (.bool (cm n))/\w=w':=by
 by_cases h:1<=n/\n<=1024
 ·obtain⟨N,rfl⟩:=Jq (by omega:0<=n)
  rw[zz N (by omega) (by omega)];have a:(1:Int)<=(N:Int):=h.1;have d:(N:Int)<=1024:=h.2;have i:IntKind.i64.wrap ((N:Int) - 1)=((N - 1:Nat):Int):=by rw[IW _ (by omega)];omega
  have g:bits .and .i64 (N:Int) ((N - 1:Nat):Int)=((N &&& (N - 1):Nat):Int):=tv N (N - 1) (by omega) (by omega);have f:(((N &&& (N - 1):Nat):Int)==0)=decide (N &&& (N - 1)=0):=by
   by_cases c:N &&& (N - 1)=0
   ·rw[c];rfl
   ·rw[Jr c,Jd];omega
  generalize decide (N &&& (N - 1)=0)=b at *;generalize N &&& (N - 1)=M at *;generalize ((N - 1:Nat):Int)=j at *;clear h;go_enter func161,ntmps161;go_wp2_with fail;go_ret;exact⟨rfl,rfl⟩
 ·rw[zA n h]
  by_cases a:1<=n
  ·have d:¬n<=1024:=λe=>h ⟨a,e⟩
   clear h;go_enter func161,ntmps161;go_wp2_with fail;go_ret;exact⟨rfl,rfl⟩
  ·clear h
   go_enter func161,ntmps161;go_wp2_with fail;go_ret;exact⟨rfl,rfl⟩
theorem oC (x n:Int)(w:World):Calls prog 124 #[.int .i64 x,.int .i64 n] w λe w'=>e=.returned (.bool (inB x n))/\w=w':=by
 have d:=Lib.hid (tH n w);by_cases b:cm n=true
 ·have j:=mm b
  have l:IntKind.i64.wrap (2*n)=2*n:=IW _ (by omega);have k:IntKind.i64.wrap (2*n - 2)=2*n - 2:=IW _ (by omega);have f:inB x n=(decide (0<=x) && decide (x<2*n - 1)):=by unfold inB;rw[b];rfl
  have g:decide (x<2*n - 1)=decide (x<=2*n - 2):=by congr 1;exact propext ⟨λh=>by omega,λh=>by omega⟩
  rw[b] at d;rw[f,g];clear b j f g;by_cases i:0<=x
  ·have c:(decide (0<=x) && decide (x<=2*n - 2))=decide (x<=2*n - 2):=by simp[i]
   rw[c];clear c;go_enter func124,ntmps124;go_wp2_with fail;refine d.out.mono ?_;rintro _ _ ⟨rfl,rfl⟩;go_wp2_with fail;go_ret;exact⟨rfl,rfl⟩
  ·have c:(decide (0<=x) && decide (x<=2*n - 2))=false:=by simp;intro h;omega
   rw[c];clear c;go_enter func124,ntmps124;go_wp2_with fail;refine d.out.mono ?_;rintro _ _ ⟨rfl,rfl⟩;go_wp2_with fail;go_ret;exact⟨rfl,rfl⟩
 ·have a:cm n=false:=by rw[Lg];exact b
  have f:inB x n=false:=by unfold inB;rw[a];rfl
  rw[a] at d;rw[f];clear b a f;go_enter func124,ntmps124;go_wp2_with fail;refine d.out.mono ?_;rintro _ _ ⟨rfl,rfl⟩;go_wp2_with fail;go_ret;exact⟨rfl,rfl⟩
theorem tI (x:Int):inB x 1024=decide (okN x):=by
 have h:cm 1024=true:=mi 10 (by omega);unfold inB okN;rw[h,Bool.true_and];by_cases a:0<=x
 ·by_cases b:x<=2046
  ·rw[Jy a,Jy (show x<2*1024 - 1 by omega),Jy (show 0<=x/\x<=2046 from⟨a,b⟩)];rfl
  ·rw[Jy a,Jr (show ¬x<2*1024 - 1 by omega),Jr (show ¬(0<=x/\x<=2046) from λh=>b h.2)];rfl
 ·rw[Jr a,Jr (show ¬(0<=x/\x<=2046) from λh=>a h.1)];rfl
theorem kX (x:Int)(w:World)(b:Tab w):Calls prog 158 #[.int .i64 x] w λe w'=>e=.returned (.int .i64 (eD x))/\w=w':=by
 have a:=Lib.hid (oC x 1024 w);rw[tI] at a;by_cases h:okN x
 ·obtain⟨j,q,rfl,d,c⟩:=(eC x).1 h
  have g:0<=((nd j q:Nat):Int)/\((nd j q:Nat):Int)<=2046:=h;rw[Jy h] at a;have f:=Lib.hid (zJ (nd j q+1) w (by omega) (by omega) b);rw[zv j q d] at f;rw[fm d c];have k:IntKind.u64.wrap ((nd j q:Nat):Int)=((nd j q:Nat):Int):=by rw[MG];omega
  have i:IntKind.u64.wrap (((nd j q:Nat):Int)+1)=((nd j q+1:Nat):Int):=by rw[MG];omega
  generalize ((nd j q+1:Nat):Int)=Y at *;generalize ((nd j q:Nat):Int)=X at *;clear h g c b;go_enter func158,ntmps158;go_wp2_with fail;refine a.out.mono ?_;rintro _ _ ⟨rfl,rfl⟩;go_wp2_with fail;refine f.out.mono ?_;rintro _ _ ⟨rfl,rfl⟩;go_wp2_with fail;go_ret;exact⟨rfl,rfl⟩
 ·rw[Jr h] at a
  rw[mn h];clear h b;go_enter func158,ntmps158;go_wp2_with fail;refine a.out.mono ?_;rintro _ _ ⟨rfl,rfl⟩;go_wp2_with fail;go_ret;exact⟨rfl,rfl⟩
theorem tJ : prog.globalNamed "math/bits.deBruijn64tab" = some 1 := by kernel_rfl
theorem zK:(prog.globals[1]?).map (·.type)=some 279:=by kernel_rfl
theorem zL:prog.cellsOf 279=64:=by kernel_rfl
theorem zM:prog.cellsOf 5=1:=by kernel_rfl
theorem zN (h : laidMetH prog [("math/bits.deBruijn32tab", Rows.laid_math_bits_deBruijn32tab), ("math/bits.deBruijn64tab", Rows.laid_math_bits_deBruijn64tab)] W) : Tab W := by
 have e : laidMet prog [("math/bits.deBruijn32tab", Rows.laid_math_bits_deBruijn32tab), ("math/bits.deBruijn64tab", Rows.laid_math_bits_deBruijn64tab)] W := h;have d := laidMet.tail e;have t : Lib.TabIs prog W "math/bits.deBruijn64tab" .u8 (Lib.deBruijn64tab.map λ(n : Nat) => (n : Int)) :=
  Lib.tabIs_of_head (rest:=[]) tJ zK underlying279 underlying5 zM zL d
 intro i b;have c:=t.cell tJ i (by simpa using (show i<Lib.deBruijn64tab.length from b));rw[c];have a:i<Lib.deBruijn64tab.length:=b;simp[IU,a]
def tK (l:List Nat):Obj->Obj
 | .cells _ t frozen=>.cells (l.map fun(n:Nat)=>(.int .u8 (n:Int):Value)).toArray t frozen
 | o=>o
noncomputable def qy (os:Os):World:=
 { World.holding prog os ⟨#[],#[],[]⟩ with heap:=((World.holding prog os ⟨#[],#[],[]⟩).heap.modify 0 (tK Lib.deBruijn32tab)).modify 1 (tK Lib.deBruijn64tab) }

import Derived.Test.YthmhklmkgkfcpaaGreatDoorX4
import Derived.Lib.LaidTab
import Derived.Stop.LaidErr
import Derived.Deep.DeepHandedRow
set_option linter.all false
set_option maxHeartbeats 8000000
set_option maxRecDepth 100000
namespace Go.Proofs.YthmhklmkgkfcpaaGreatDoor
open Go.Proofs.Tryz Go.RowKit
variable {A B W w w0:World}{N gf j l m q:Nat}{P:Program}{Q:Exit->Act->World->Prop}{R Y:Nat->Prop}{T:Nat->Value->(Nat->Prop)->World->Prop}{a:Act}{assign body:Code}{g:Operand}{lb:Array Value}{p:Addr}{ps:Array Tmp}{v:Value}
theorem zX {n:Int}(h:∀ i,i<=10->n≠((2 ^ i:Nat):Int)):cH n=false:=by
 rw[LM];intro b;obtain⟨K,a,e⟩:=(mz n).1 b;exact h K a e
theorem qL (n:Int)(w:World):Calls prog 78 #[.int .i64 n] w λe w'=>e=.returned (.bool (cH n))/\w=w':=by
 have q:Hid (∀ k,k<10->(((2 ^ k:Nat):Int))<1024/\(2*((2 ^ k:Nat):Int))=((2 ^ (k+1):Nat):Int)):=λk p=>by
  have:(2:Nat) ^ k<2 ^ 10:=Nat.pow_lt_pow_right (by omega) p;have s:=bi k;exact⟨by omega,by omega⟩
 have l:Hid (∀ k,k<=10->n=((2 ^ k:Nat):Int)->cH n=true):=λk p e=>by rw[e];exact kX k p
 have d:Hid ((∀ i,i<=10->n≠((2 ^ i:Nat):Int))->cH n=false):=zX;generalize cH n=b at *;go_enter func78,ntmps78;go_wp2_with fail;go_loop [3] (λm=>∃ k:Nat,k<=10/\m=.int .i64 ((2 ^ k:Nat):Int)/\∀ i,i<k->n≠((2 ^ i:Nat):Int)) (λm=>(1024 - (intOf m).toNat))
 case atStart=>exact⟨0,by omega,rfl,λi h=>by omega⟩
 case round=>
  obtain⟨k,p,rfl,a⟩:=hrel;by_cases u:k<10
  ·obtain⟨F,s⟩:=q.out k u
   have j:=l.out k p;have y:Hid (n≠((2 ^ k:Nat):Int)->∀ i,i<k+1->n≠((2 ^ i:Nat):Int)):=λc i v=>by
    rcases Kh (Kr.1 v) with f|f
    ·exact a i f
    ·rw[f];exact c
   have z:(1:Int)<=((2 ^ k:Nat):Int):=by have:=bE k;exact_mod_cast this
   generalize ((2 ^ k:Nat):Int)=m at *;have t:0<=m\/m<0:=by omega
   by_cases c:n=m
   ·have r:=JE (j c)
    subst c;clear j y l d s a q;go_wp2;go_ret;exact⟨by rw[r.out];rfl,rfl⟩
   ·have o:¬m=n:=λh=>c h.symm
    have x:=JE (y.out c);have C:=JE s;by_cases E:0<=m
    ·have D:IntKind.i64.wrap (2*m)=2*m:=JI _ (by omega)
     have B:1<=m:=z;clear j y l d s a q c t;go_wp2;go_round
     case rel=>exact⟨k+1,by omega,by rw[<-C.out],x.out⟩
     case measure=>simp[intOf];omega
    ·exfalso
     have:0<=((2 ^ (k+1):Nat):Int):=Int.natCast_nonneg _;omega
  ·obtain rfl:k=10:=by omega
   have g:((2 ^ 10:Nat):Int)=1024:=rfl;rw[g];by_cases c:n=1024
   ·have r:=JE (l.out 10 (by omega) (by rw[c];rfl))
    subst c;clear l d a q g;go_wp2;go_ret;exact⟨by rw[r.out];rfl,rfl⟩
   ·have r:=JE (d.out (λi v=>by
     rcases Kh v with f|f
     ·exact a i f
     ·rw[f];exact c))
    have o:¬(1024:Int)=n:=λh=>c h.symm
    have A:((1024:Int)==n)=false:=JL.2 o;clear l d a q g c;go_wp2;go_ret;exact⟨by rw[r.out];rfl,rfl⟩
theorem mD (x n:Int)(w:World)(j:-9223372036854775808<=n/\n<=9223372036854775807):Calls prog 95 #[.int .i64 x,.int .i64 n] w λe w'=>e=.returned (.bool (inB x n))/\w=w':=by
 have c:=JE (qL n w);by_cases b:cH n=true
 ·have i:=mA b
  have l:IntKind.i64.wrap (2*n)=2*n:=JI _ (by omega);have k:IntKind.i64.wrap (2*n - 1)=2*n - 1:=JI _ (by omega);have f:Hid (inB x n=(decide (0<=x) && decide (x<2*n - 1))):=by unfold inB;rw[b];rfl
  rw[b] at c;rw[f.out];clear b i;by_cases g:0<=x
  ·have d:(decide (0<=x) && decide (x<2*n - 1))=decide (x<2*n - 1):=by simp[g]
   rw[d];go_enter func95,ntmps95;go_wp2_with fail;refine c.out.mono ?_;rintro _ _ ⟨rfl,rfl⟩;go_wp2_with fail;go_ret;exact⟨rfl,rfl⟩
  ·have d:(decide (0<=x) && decide (x<2*n - 1))=false:=by simp;intro h;omega
   rw[d];go_enter func95,ntmps95;go_wp2_with fail;refine c.out.mono ?_;rintro _ _ ⟨rfl,rfl⟩;go_wp2_with fail;go_ret;exact⟨rfl,rfl⟩
 ·have a:cH n=false:=by rw[LM];exact b
  have f:Hid (inB x n=false):=by unfold Hid inB;rw[a];rfl
  rw[a] at c;rw[f.out];clear b a;go_enter func95,ntmps95;go_wp2_with fail;refine c.out.mono ?_;rintro _ _ ⟨rfl,rfl⟩;go_wp2_with fail;go_ret;exact⟨rfl,rfl⟩
theorem zY (n:Int)(w:World):Calls prog 75 #[.int .i64 n] w λe w'=>e=.returned (.tuple #[.int .i64 (gF n),.int .i64 (gD n)])/\w=w':=by
 have c:=JE (qL n w);by_cases a:cH n=true
 ·have d:=mA a
  have g:IntKind.i64.wrap (2*n)=2*n:=JI _ (by omega);have f:IntKind.i64.wrap (2*n - 1)=2*n - 1:=JI _ (by omega);rw[show gF n=2*n - 1 from if_pos a,show gD n=0 from if_pos a];rw[a] at c;clear a d;go_enter func75,ntmps75;go_wp2_with fail;refine c.out.mono ?_;rintro _ _ ⟨rfl,rfl⟩;go_wp2_with fail;go_ret2;exact⟨rfl,rfl⟩
 ·have b:cH n=false:=by rw[LM];exact a
  rw[show gF n=0 from if_neg a,show gD n=1 from if_neg a];rw[b] at c;clear a b;go_enter func75,ntmps75;go_wp2_with fail;refine c.out.mono ?_;rintro _ _ ⟨rfl,rfl⟩;go_wp2_with fail;go_ret2;exact⟨rfl,rfl⟩
theorem tV (j q:Nat):((nd (j+1) q:Nat):Int).tmod 2=1:=by
 have:=jz j q;rw[Kv (by omega)];omega
theorem tW (q:Nat):((nd 0 q:Nat):Int).tmod 2=0:=by
 have:=kS q;rw[Kv (by omega)];omega
theorem zZ (j q:Nat):((nd (j+1) q:Nat):Int).tdiv 2=((nd j q:Nat):Int):=by
 have:=tC j q;rw[Kx (by omega)];omega
theorem Aa (j q:Nat)(w:World)(r:j<=10)(m:q<2 ^ (10 - j)):Calls prog 82 #[.int .i64 ((nd j q:Nat):Int)] w λe w'=>e=.returned (.int .i64 (j:Int))/\w=w':=by
 obtain⟨B,A⟩:=(eN ((nd j q:Nat):Int)).2 ⟨j,q,rfl,r,m⟩;have d:Hid (∀ i,i<=j->0<=((nd i q:Nat):Int)/\((nd i q:Nat):Int)<=2046):=λi s=>(eN ((nd i q:Nat):Int)).2 ⟨i,q,rfl,by omega,JV m (Lm (by omega) (by omega))⟩
 have g:=JE (λi=>tV i q);have h:=JE (tW q);have l:=JE (λi=>zZ i q);obtain⟨f,o⟩:∃ f:Nat->Int,f=λi=>((nd i q:Nat):Int):=⟨_,rfl⟩
 have b:∀ i,((nd i q:Nat):Int)=f i:=λi=>by rw[o]
 simp only[b] at *;clear o b;go_enter func82,ntmps82;go_wp2_with fail;go_loop [3,4] (λk y=>∃ i:Nat,i<=j/\k=.int .i64 ((j - i:Nat):Int)/\y=.int .i64 (f i)) (λk _=>(j - (intOf k).toNat))
 case atStart=>exact⟨j,JO _,by simp,rfl⟩
 case round=>
  obtain⟨i,s,rfl,rfl⟩:=hrel;cases i with
  | zero=>
   have u:=h.out;clear d g h l;rw[NH];go_wp2;go_ret;exact⟨rfl,rfl⟩
  | succ i=>
   have u:=g.out i;have z:=l.out i;have t:=d.out i (by omega);have v:IntKind.i64.wrap (f i)=f i:=JI _ (by omega);obtain⟨k,n⟩:∃ k:Int,((j - (i+1):Nat):Int)=k:=⟨_,rfl⟩;have a:k+1=((j - i:Nat):Int):=by omega
   have p:0<=k/\k<=10:=by omega
   have x:IntKind.i64.wrap (k+1)=k+1:=JI _ (by omega);have c:=JE a;rw[n];clear d g h l t n a;go_wp2;go_round
   case rel=>exact⟨i,by omega,by rw[<-c.out],rfl⟩
   case measure=>have:=c.out;simp[intOf];omega
theorem Ab (x:Int)(w:World)(h:¬okN x):Calls prog 82 #[.int .i64 x] w λe w'=>e=.returned (.int .i64 0)/\w=w':=by
 unfold okN at h;by_cases b:0<=x
 ·have a:¬x<=2046:=λa=>h ⟨b,a⟩
  clear h;go_enter func82,ntmps82;go_wp2_with fail;go_loop [3,4] (λk y=>k=.int .i64 0/\y=.int .i64 x) (λ_ _=>0)
  case atStart=>exact⟨rfl,rfl⟩
  case round=>
   obtain⟨rfl,rfl⟩:=hrel;go_wp2;go_ret;exact⟨rfl,rfl⟩
 ·clear h
  go_enter func82,ntmps82;go_wp2_with fail;go_loop [3,4] (λk y=>k=.int .i64 0/\y=.int .i64 x) (λ_ _=>0)
  case atStart=>exact⟨rfl,rfl⟩
  case round=>
   obtain⟨rfl,rfl⟩:=hrel;go_wp2;go_ret;exact⟨rfl,rfl⟩
theorem qM (x:Int)(w:World):Calls prog 82 #[.int .i64 x] w λe w'=>e=.returned (.int .i64 (eO x))/\w=w':=by
 by_cases h:okN x
 ·obtain⟨j,q,rfl,b,a⟩:=(eN x).1 h
  rw[fw b a];exact Aa j q w b a
 ·rw[mB h]
  exact Ab x w h
theorem tX (k:Nat)(w:World)(r:k<=20):Calls prog 83 #[.int .i64 (k:Int)] w λe w'=>e=.returned (.int .i64 ((2 ^ k:Nat):Int))/\w=w':=by
 have j:Hid (∀ i,i<k->0<=((2 ^ i:Nat):Int)/\((2 ^ i:Nat):Int)<=1048576/\2*((2 ^ i:Nat):Int)=((2 ^ (i+1):Nat):Int)):=λi l=>by
  have o:(2:Nat) ^ i<=2 ^ 20:=Lm (by omega) (by omega);have m:=bi i;generalize 2 ^ (i+1)=N at *;generalize 2 ^ i=M at *;omega
 obtain⟨f,g⟩:∃ f:Nat->Int,f=λi=>((2 ^ i:Nat):Int):=⟨_,rfl⟩
 have a:∀ i,((2 ^ i:Nat):Int)=f i:=λi=>by rw[g]
 have b:f 0=1:=by rw[g];rfl
 simp only[a] at *;clear g a;have c:=JE b;clear b;go_enter func83,ntmps83;go_wp2_with fail;go_loop [3,4] (λn y=>∃ i:Nat,i<=k/\n=.int .i64 (f i)/\y=.int .i64 (i:Int)) (λ_ y=>(k - (intOf y).toNat))
 case atStart=>exact⟨0,JW _,by rw[c.out],rfl⟩
 case round=>
  obtain⟨i,l,rfl,rfl⟩:=hrel;by_cases d:i<k
  ·obtain⟨o,m,h⟩:=j.out i d
   have p:=JE h;have q:IntKind.i64.wrap (2*f i)=2*f i:=JI _ (by omega);clear j h c;go_wp2;go_round
   case rel=>exact⟨i+1,by omega,by rw[<-p.out],by go_num⟩
   case measure=>simp[intOf];omega
  ·obtain rfl:i=k:=by omega
   go_wp2;go_ret;exact⟨rfl,rfl⟩
structure az (Y:Nat->Prop)(A B:World):Prop where
 os:B.os=A.os
 tape:B.tape=A.tape
 output:B.output=A.output
 size:A.heap.size<=B.heap.size
 block:∀ k,k<A.heap.size->¬Y k->B.heap[k]?=A.heap[k]?
theorem az.refl (Y:Nat->Prop)(A:World):az Y A A:=⟨rfl,rfl,rfl,JO _,λ_ _ _=>rfl⟩
def NU:=@az.refl
theorem az.mono {Z:Nat->Prop}(h:az Y A B)(a:∀ k,Y k->Z k):az Z A B:=⟨h.os,h.tape,h.output,h.size,λk c b=>h.block k c (λe=>b (a k e))⟩
theorem az.of_kp {Y:Nat->Prop}{A B:World}(h:Kp A B):az Y A B:=⟨h.os,h.tape,h.output,h.size,λk a _=>h.block k a⟩
def NY:=@az.of_kp
theorem az.below (h:az Y A B){n:Nat}(b:n<=A.heap.size)(a:∀ k,Y k->n<=k):Below n A B:=
 ⟨h.os,h.tape,h.output,h.size,λk c=>h.block k (by omega) (λe=>by have:=a k e;omega)⟩
theorem az.setCell (h:az Y A B)(p:Addr)(v:Value)(b:A.heap.size<=p.block\/Y p.block):az Y A (B.setCell p v):=
 ⟨h.os,h.tape,h.output,by simpa using h.size,λk c a=>(Below.heap_setCell B p v k (λe=>by subst e;exact b.elim (λd=>by omega) a)).trans (h.block k c a)⟩
theorem az.putObj (h:az Y A B)(l:Nat)(o:Obj)(b:A.heap.size<=l\/Y l):az Y A (B.putObj l o):=
 ⟨h.os,h.tape,h.output,by simpa using h.size,λk c a=>(World.putObj_heap_other (λe=>by subst e;exact b.elim (λd=>by omega) a)).trans (h.block k c a)⟩
theorem az.cell (h:az Y A B)(a:A.cell? p=some v)(b:¬Y p.block):B.cell? p=some v:=
 (Mc (w:=A) (h.block p.block (Kl A p a) b)).trans a
structure aR (R:Nat->Prop)(A B:World):Prop where
 size:A.heap.size<=B.heap.size
 block:∀ k,k<A.heap.size->R k->B.heap[k]?=A.heap[k]?
theorem aR.refl (R:Nat->Prop)(A:World):aR R A A:=⟨JO _,λ_ _ _=>rfl⟩
theorem aR.trans {C:World}(h:aR R A B)(k:aR R B C):aR R A C:=
 ⟨Kd h.size k.size,λi b a=>(k.block i (JV b h.size) a).trans (h.block i b a)⟩
theorem aR.mono {S:Nat->Prop}(h:aR R A B)(b:∀ k,S k->R k):aR S A B:=⟨h.size,λk c a=>h.block k c (b k a)⟩
theorem aR.of_step (h:az Y A B)(c:∀ k,R k->¬Y k):aR R A B:=⟨h.size,λk b a=>h.block k b (c k a)⟩
theorem aR.of_kp (h:Kp A B):aR R A B:=⟨h.size,λk a _=>h.block k a⟩
theorem aR.cell (h:aR R A B)(a:A.cell? p=some v)(b:R p.block):B.cell? p=some v:=
 (Mc (w:=A) (h.block p.block (Kl A p a) b)).trans a
theorem Rd.turn {b:List UInt8}{o:Obj}(h:Rd A v b)(p:A.heap[l]?=some o)(n:o.isCells=false)(m:az (λk=>k=l) A B):Rd B v b:=by
 obtain⟨a,c,rfl,u,t,s,r⟩:=h;refine⟨a,c,rfl,u,t,s,λx j i q=>?_⟩;have g:=r x j i q;refine m.cell g (λe=>?_);obtain⟨o',d,f⟩:=cells_of_cell g;rw[e,p] at d;cases d;rw[n] at f;cases f
def li (Y Y':Nat->Prop)(A B:World):Prop:=∀ k,Y' k->Y k\/(A.heap.size<=k/\k<B.heap.size)
def ed (B0:Nat)(J:(Nat->Prop)->World->Prop):Prop:=
 ∀ Y Y' A B,J Y A->(∀ k,Y k->B0<=k/\k<A.heap.size)->az Y A B->li Y Y' A B->J Y' B
def oL (P:Program)(gf:Nat)(lb:Array Value)(T:Nat->Value->(Nat->Prop)->World->Prop)(N:Nat)(R:Nat->Prop)(w:World):Prop:=
 ∀ (l:Nat) (J Jx:Nat->(Nat->Prop)->World->Prop) (W:World),aR R w W->w.heap.size<=l->l<W.heap.size ->
  (∀ i,ed W.heap.size (J i))->(∀ i,ed W.heap.size (Jx i)) ->
  (∀ i Y A v m,i<N->J i Y A->(∀ k,Y k->W.heap.size<=k/\k<A.heap.size)->aR R w A->T i v Y A ->
   YieldAt Fence.wide m P l #[v] A λe B=>aR (λk=>Y k\/R k) A B/\((e=.returned (.bool true)/\J (i+1) Y B)\/(e=.returned (.bool false)/\Jx i Y B))) ->
  J 0 (λ_=>False) W ->
  Calls P gf (#[.func (.yield l) #[] #[]]++lb) W λe B=>(∃ v,e=.returned v)/\∃ Y,(∀ k,Y k->W.heap.size<=k/\k<B.heap.size)/\(J N Y B\/∃ i,i<N/\Jx i Y B)
def lj:Exit->Option Code
 | .ret=>some .ret
 | .exit id=>some (.exit id)
 | .goto t=>some (.goto t)
 | _=>none
theorem RoundIn.anyDepth {d:Nat}{f:FuncId}{tmps:Array Value}{a b:Code}{R:Ending->World->Prop}
 (h:RoundIn Fence.wide m P l f tmps a b w R):RoundIn Fence.wide d P l f tmps a b w R:=⟨h.1,λc cs _=>h.2 c cs (room_wide _)⟩
theorem YieldAt.anyDepth (c:Nat){args:Array Value}{R:Ending->World->Prop}(h:YieldAt Fence.wide m P l args W R):YieldAt Fence.wide c P l args W R:=by
 obtain⟨f,tmps,a,b,d,e⟩:=h;exact⟨f,tmps,a,b,d,RoundIn.anyDepth e⟩
theorem mE (w:World)(D:Nat)(o:Obj):(w.putObj D o).heap.size=w.heap.size:=by
 simp[World.putObj]
theorem tY 
    (hg:a.eval g=.func (.func gf) #[] lb) (eg:∀ args w,(callFunc gf args).run P w=.ok (.enter gf args) w)
      (af:Kp w0 w) (an:∀ k,R k->k<w0.heap.size) (aw:oL P gf lb T N R w0) (aG:ps.size=1)
  (I:Nat->(Nat->Prop)->World->Prop) (Ix:Code->Nat->(Nat->Prop)->World->Prop)
  (hI:∀ i,ed w.heap.size (I i)) (ap:∀ c i,ed w.heap.size (Ix c i))
  (aP:∀ i v q Y A B l o,T i v q A->(∀ k,q k->Y k)->(∀ k,Y k->q k\/∃ o:Obj,A.heap[k]?=some o/\o.isCells=false)->w.heap.size<=l->A.heap[l]?=some (.loop o)->az (λk=>k=l) A B->T i v Y B)
  (h0:I 0 (λ_=>False) w) (Ax:Value->Act->World->Prop)
  (aW:∀ v M A l o o',Ax v M A->w.heap.size<=l->A.heap[l]?=some (.loop o)->Ax v M (A.putObj l o'))
  (ad:∀ (l i:Nat) (Y q:Nat->Prop) (v:Value) (A:World) (K:Act->World->Prop),I i Y A->T i v q A->(∀ M A',Kp A A'->Ax v M A'->K M A') ->
   assign.wpIn (Fence.wide.inRound l) 4 P (Exit.then K (λ_ _ _=>False)) { tmps:=(ps.zip #[v]).foldl (λt (p,v)=>t.setIfInBounds p v) a.tmps,defers:=[] } A)
  (am:∀ (l i:Nat) (Y:Nat->Prop) (v:Value) (M:Act) (A:World),i<N->I i Y A->(∀ k,Y k->w.heap.size<=k/\k<A.heap.size)->aR R w A->T i v Y A->Ax v M A ->
   body.wpIn (Fence.wide.inRound l) 4 P (λe _ B=>aR (λk=>Y k\/R k) A B/\((e=.normal/\I (i+1) Y B)\/∃ c,lj e=some c/\Ix c i Y B)) M A)
  (al:∀ (D:Nat) (Y:Nat->Prop) (W:World),w.heap.size<=D->Y D->(∀ k,Y k->w.heap.size<=k)->I N Y W->W.heap[D]?=some (.deferred (some []))->Q .normal { a with defers:={ target:=.collected D,args:=#[] } :: a.defers } W)
  (ag:∀ (D:Nat) (c:Code) (i:Nat) (Y:Nat->Prop) (W:World),w.heap.size<=D->Y D->(∀ k,Y k->w.heap.size<=k)->i<N->Ix c i Y W->W.heap[D]?=some (.deferred (some []))->c.wp P Q { a with defers:={ target:=.collected D,args:=#[] } :: a.defers } W):
  (Code.rangeFunc g ps assign body).wp P Q a w:=by
 have hR:∀ k,R k->k<w.heap.size:=λk b=>JV (an k b) af.size
 refine(wpIn_wide (n:=6)).1 (wpIn_rangeFunc ?_);intro fn aJ;rw[show Fence.wide.round=none from rfl];let rec':LoopState->Option Code->Loop:=λst pe=>{ state:=st,pending:=pe,fn,tmps:=a.tmps,params:=ps,assign,body,defers:=w.heap.size }
 obtain⟨H,ae⟩:∃ H,(w.alloc (.deferred (some []))).alloc (.loop (rec' .ready none))=H:=⟨_,rfl⟩;have aV:H.heap[w.heap.size]?=some (.deferred (some [])):=by
  rw[<-ae];exact(Below.heap_alloc _ _ _ (by simp)).trans (heap_alloc_new w _)
 have aT:H.heap[w.heap.size+1]?=some (.loop (rec' .ready none)):=by
  rw[<-ae];have:=heap_alloc_new (w.alloc (.deferred (some []))) (.loop (rec' .ready none));rwa [JY] at this
 have aX:H.heap.size=w.heap.size+2:=by rw[<-ae];simp
 have aA:Kp w H:=by rw[<-ae];exact((NQ w).alloc _).alloc _
 let V:Nat->(Nat->Prop)->World->(Nat->Prop)->Prop:=λi q A Y=>I i Y A/\(∀ k,q k->Y k)/\(∀ k,Y k->q k\/k=w.heap.size\/k=w.heap.size+1)/\(∀ k,Y k->w.heap.size<=k/\k<A.heap.size)/\Y w.heap.size/\Y (w.heap.size+1) /\
  A.heap[w.heap.size]?=some (.deferred (some []))/\A.heap[w.heap.size+1]?=some (.loop (rec' .ready none))
 let Vx:Nat->(Nat->Prop)->World->(Nat->Prop)->Code->Prop:=λi q A Y c=>Ix c i Y A/\(∀ k,q k->Y k)/\(∀ k,Y k->q k\/k=w.heap.size\/k=w.heap.size+1)/\(∀ k,Y k->w.heap.size<=k/\k<A.heap.size)/\Y w.heap.size/\Y (w.heap.size+1) /\
  A.heap[w.heap.size]?=some (.deferred (some []))/\A.heap[w.heap.size+1]?=some (.loop (rec' .done (some c)))
 have hV:∀ i,ed H.heap.size (λq A=>∃ Y,V i q A Y):=by
  rintro i q ar A B ⟨Y,hi,s,y,d,j,f,hd,J⟩ x r Z;have ah:¬q w.heap.size:=λe=>by have:=(x _ e).1;omega
  have F:¬q (w.heap.size+1):=λe=>by have:=(x _ e).1;omega
  have aq:=(d _ j).2;have ao:=(d _ f).2;refine⟨λk=>ar k\/k=w.heap.size\/k=w.heap.size+1,hI i Y _ A B hi d (r.mono s) (λk b=>?_),λk b=>.inl b,λk b=>b,λk b=>?_,.inr (.inl rfl),.inr (.inr rfl),(r.block _ aq ah).trans hd,(r.block _ ao F).trans J⟩
  ·rcases b with b|rfl|rfl
   ·exact(Z k b).imp (s k) id
   ·exact .inl j
   ·exact .inl f
  ·have:=r.size
   rcases b with b|rfl|rfl
   ·rcases Z k b with h|h
    ·have:=d k (s k h);omega
    ·have:=d _ j;omega
   ·omega
   ·omega
 have aN:∀ i,ed H.heap.size (λq A=>∃ Y c,Vx i q A Y c):=by
  rintro i q ar A B ⟨Y,c,hi,s,y,d,j,f,hd,J⟩ x r Z;have ah:¬q w.heap.size:=λe=>by have:=(x _ e).1;omega
  have F:¬q (w.heap.size+1):=λe=>by have:=(x _ e).1;omega
  have aq:=(d _ j).2;have ao:=(d _ f).2;refine⟨λk=>ar k\/k=w.heap.size\/k=w.heap.size+1,c,ap c i Y _ A B hi d (r.mono s) (λk b=>?_),λk b=>.inl b,λk b=>b,λk b=>?_,.inr (.inl rfl),.inr (.inr rfl),(r.block _ aq ah).trans hd,(r.block _ ao F).trans J⟩
  ·rcases b with b|rfl|rfl
   ·exact(Z k b).imp (s k) id
   ·exact .inl j
   ·exact .inl f
  ·have:=r.size
   rcases b with b|rfl|rfl
   ·rcases Z k b with h|h
    ·have:=d k (s k h);omega
    ·have:=d _ j;omega
   ·omega
   ·omega
 refine⟨w.heap.size+1,[{ target:=.collected w.heap.size,args:=#[] }],H,{ target:=.fn (.func gf) lb,args:=#[.func (.yield (w.heap.size+1)) #[] #[]] },H,gf,
  #[.func (.yield (w.heap.size+1)) #[] #[]]++lb,H,?_,?_,?_,?_,λ_=>by omega,?_⟩
 ·rw[<-ae];exact run_enterLoop_outer _ _ _ _ _
 ·simp only[resolve,hg]
  simp[go_sem]
 ·intro f' aY
  trivial
 ·simp[invoke,go_sem,eg]
 ·refine callsIn_wide.2 ((aw (w.heap.size+1) (λi q A=>∃ Y,V i q A Y) (λi q A=>∃ Y c,Vx i q A Y c) H (aR.of_kp (af.trans aA)) (by have:=af.size;omega) (by omega) hV aN ?_
   ⟨λk=>k=w.heap.size\/k=w.heap.size+1,hI 0 _ _ w H h0 (λk b=>b.elim) (NY aA) (λk b=>.inr (by rcases b with rfl|rfl <;> omega)),λk b=>b.elim,λk b=>.inr b,λk b=>by rcases b with rfl|rfl <;> omega,.inl rfl,.inr rfl,aV,aT⟩).mono ?_)
  ·rintro i q A v m hi ⟨Y,aE,s,y,d,j,f,hd,J⟩ x aD hT
   have aS:aR R w A:=⟨by have:=(d _ f).2;omega,λk _ U=>(aD.block k (an k U) U).trans (af.block k (an k U)).symm⟩;have ai:w.heap.size+1<A.heap.size:=(d _ f).2;have hy:=run_yield (P:=P) (args:=#[v]) J (by show(#[v]:Array Value).size=ps.size;rw[aG];rfl);have aO:∀ B,az (λk=>k=w.heap.size+1) A B->T i v Y B:=λB hB=>aP i v q Y A B _ _ hT s (λk b=>(y k b).imp id (λh=>h.elim (λe=>⟨_,e▸hd,rfl⟩) (λe=>⟨_,e▸J,rfl⟩))) (by omega) J hB
   have aQ:∀ k,R k->k≠w.heap.size+1:=λk b=>by have:=hR k b;omega
   refine YieldAt.anyDepth m (m:=4) ⟨fn,_,assign,body,hy,roundIn_of_wpIn aJ (ad _ i Y q v A _ aE hT ?_)⟩;intro M A1 X aM;have aj:=(X.block _ ai).trans J;have aL:=(X.block _ (d _ j).2).trans hd;refine⟨_,run_beginRound aj rfl,?_⟩;have ay:w.heap.size+1<A1.heap.size:=(JK.1 aj).1;obtain⟨E,z⟩:∃ E,A1.putObj (w.heap.size+1) (.loop { rec' .ready none with state:=.busy })=E:=⟨_,rfl⟩;rw[z];have av:az (λk=>k=w.heap.size+1) A E:=by rw[<-z];exact(NY X).putObj _ _ (.inr rfl)
   have r:az Y A E:=by rw[<-z];exact(NY X).putObj _ _ (.inr f)
   have aH:E.heap[w.heap.size+1]?=some (.loop { rec' .ready none with state:=.busy }):=by rw[<-z];exact World.putObj_heap_same ay
   have aK:E.heap[w.heap.size]?=some (.deferred (some [])):=by rw[<-z];exact(World.putObj_heap_other (by omega)).trans aL
   have aB:Ax v M E:=by rw[<-z];exact aW v M A1 _ _ _ aM (by omega) aj
   have C:∀ k,Y k->w.heap.size<=k/\k<E.heap.size:=λk b=>⟨(d k b).1,JV (d k b).2 r.size⟩
   have aU:=hI i Y Y A E aE d r (λk b=>.inl b);have aC:aR R w E:=(aS.trans (aR.of_step r (λk b hy=>by have:=hR k b;have:=(d k hy).1;omega)));refine wpIn_mono (am _ i Y v M E hi aU C aC (aO E av) aB) ?_;have aF:∀ (u:Option Code) (B:World),aR (λk=>Y k\/R k) E B->∃ B',(Instr.endRound (w.heap.size+1) u).run P B=.ok (.bool u.isNone) B' /\
     B'.heap[w.heap.size+1]?=some (.loop (rec' (if u.isNone then .ready else .done) u))/\B'.heap[w.heap.size]?=some (.deferred (some []))/\az Y B B'/\(∀ k,Y k->w.heap.size<=k/\k<B.heap.size)/\aR (λk=>q k\/R k) A B':=λu B hh=>by
    have G:=(hh.block _ (C _ f).2 (.inl f)).trans aH;have ab:=(hh.block _ (C _ j).2 (.inl j)).trans aK;have ax:w.heap.size+1<B.heap.size:=(JK.1 G).1;have F:∀ k,q k\/R k->k≠w.heap.size+1:=λk b=>by
     rcases b with h|h
     ·have:=(x _ h).1;omega
     ·exact aQ k h
    refine⟨_,run_endRound (P:=P) u G,World.putObj_heap_same ax,(World.putObj_heap_other (by omega)).trans ab,(NU Y B).putObj _ _ (.inr f),λk b=>⟨(d k b).1,JV (C k b).2 hh.size⟩,⟨?_,λk b U=>?_⟩⟩
    ·rw[mE];exact Kd r.size hh.size
    ·have e1:E.heap[k]?=A.heap[k]?:=by
      rw[<-z];exact(World.putObj_heap_other (F k U)).trans (X.block k b)
     refine(World.putObj_heap_other (F k U)).trans ((hh.block k (JV b r.size) ?_).trans e1);exact U.elim (λh=>.inl (s k h)) .inr
   have au:∀ (u:Option Code) (B B':World),az Y B B'->(∀ k,Y k->w.heap.size<=k/\k<B.heap.size)->(∀ k,Y k->w.heap.size<=k/\k<B'.heap.size):=λ_ B B' h hy k b=>⟨(hy k b).1,JV (hy k b).2 h.size⟩
   rintro e a3 B ⟨hh,hp⟩;have go:∀ c,lj e=some c->Ix c i Y B->∃ v B',(Instr.endRound (w.heap.size+1) (some c)).run P B=.ok v B' /\
     (aR (λk=>q k\/R k) A B'/\((Ending.returned v=.returned (.bool true)/\∃ Y,V (i+1) q B' Y)\/(Ending.returned v=.returned (.bool false)/\∃ Y c,Vx i q B' Y c))):=λc L hx=>by
    obtain⟨B',U,G,ab,S,O,ak⟩:=aF (some c) B hh;exact⟨_,B',U,ak,.inr ⟨rfl,Y,c,ap c i Y Y B B' hx O S (λk b=>.inl b),s,y,au none B B' S O,j,f,ab,G⟩⟩
   cases e with
   | normal=>
    rcases hp with⟨_,hi3⟩|⟨c,L,_⟩
    ·obtain⟨B',U,G,ab,S,O,ak⟩:=aF none B hh
     exact⟨_,B',U,ak,.inl ⟨rfl,Y,hI (i+1) Y Y B B' hi3 O S (λk b=>.inl b),s,y,au none B B' S O,j,f,ab,G⟩⟩
    ·cases L
   | ret=>
    rcases hp with⟨h,_⟩|⟨c,L,hx⟩
    ·cases h
    ·cases L;exact go _ rfl hx
   | exit id=>
    rcases hp with⟨h,_⟩|⟨c,L,hx⟩
    ·cases h
    ·cases L;exact go _ rfl hx
   | goto t=>
    rcases hp with⟨h,_⟩|⟨c,L,hx⟩
    ·cases h
    ·cases L;exact go _ rfl hx
   | panic ch=>
    rcases hp with⟨h,_⟩|⟨c,L,_⟩
    ·cases h
    ·cases L
   | outgrown=>
    rcases hp with⟨h,_⟩|⟨c,L,_⟩
    ·cases h
    ·cases L
  ·rintro e W2 ⟨⟨v,rfl⟩,q,x,(⟨Y,hi,s,y,d,j,f,hd,J⟩|⟨i,aI,Y,c,hi,s,y,d,j,f,hd,J⟩)⟩
   ·have ai:w.heap.size+1<W2.heap.size:=(d _ f).2
    have aa:(Instr.endLoop (w.heap.size+1)).run P W2=.ok none (W2.putObj (w.heap.size+1) (.loop (rec' .exhausted none))):=run_endLoop (P:=P) J (by simp[rec']);refine⟨none,_,aa,al _ Y _ (JO _) j (λk b=>(d k b).1) (hI N Y Y W2 _ hi d ((NU _ _).putObj _ _ (.inr f)) (λk b=>.inl b)) ((World.putObj_heap_other (by omega)).trans hd)⟩
   ·have ai:w.heap.size+1<W2.heap.size:=(d _ f).2
    have aa:(Instr.endLoop (w.heap.size+1)).run P W2=.ok (some c) (W2.putObj (w.heap.size+1) (.loop (rec' .exhausted (some c)))):=run_endLoop (P:=P) J (by simp[rec']);exact⟨some c,_,aa,wpIn_wide.2 (ag _ c i Y _ (JO _) j (λk b=>(d k b).1) aI (ap c i Y Y W2 _ hi d ((NU _ _).putObj _ _ (.inr f)) (λk b=>.inl b)) ((World.putObj_heap_other (by omega)).trans hd))⟩
def Tab (w:World):Prop:=∀ i,i<64->w.cell? ⟨1,i,none⟩=some (.int .u8 ((Lib.deBruijn64tab.getD i 0:Nat):Int))
theorem Tab.kp {w':World}(h:Tab w)(k:Kp w w'):Tab w':=λi a=>k.cell (h i a)
theorem Tab.lt (h:Tab w):1<w.heap.size:=Kl w _ (h 0 (by omega))
theorem Tab.held (h:Tab A)(k:aR R A B)(a:R 1):Tab B:=λi b=>k.cell (h i b) a
theorem Ac (x a:Nat)(d:x<18446744073709551616)(c:x≠0)(b:x &&& (18446744073709551616 - x)=a):
  IntKind.u64.wrap (bits BinOp.and IntKind.u64 (x:Int) (IntKind.u64.wrap (-(x:Int)))*285870213051353865) / 288230376151711744=((a*285870213051353865 % 18446744073709551616 / 288230376151711744:Nat):Int):=by
 have e:IntKind.u64.wrap (-(x:Int))=((18446744073709551616 - x:Nat):Int):=by rw[Ny];omega
 rw[e,bits_and_u64_nat x _ d (by omega),b,Ny];omega
theorem Ad (x k a:Nat)(w:World)(c:((x:Int)==0)=false)
  (key:IntKind.u64.wrap (bits BinOp.and IntKind.u64 (x:Int) (IntKind.u64.wrap (-(x:Int)))*285870213051353865) / 288230376151711744=(a:Int))
  (f:a<64) (d:k<64) (b:w.cell? ⟨1,a,none⟩=some (.int .u8 k)):
  Calls prog 232 #[.int .u64 x] w λe w'=>e=.returned (.int .i64 k)/\w=w':=by
 go_enter func232,ntmps232;go_wp2_with(simp only[key])
 go_ret;exact⟨rfl,rfl⟩
theorem Ae (x:Nat)(w:World)(f:x<18446744073709551616)(b:x≠0)(i:Tab w):
  Calls prog 232 #[.int .u64 x] w λe w'=>e=.returned (.int .i64 (Lib.ctz 64 x))/\w=w':=by
 obtain⟨d,g⟩:=Lib.lowest_bit 64 x b f;obtain⟨h,c⟩:=Lib.deBruijn64_at _ g;have a:=i _ h;rw[c] at a;exact Ad x _ _ w (by simp;omega) (Ac x _ f b d) h g a
theorem Af (x:Nat)(w:World)(b:x<18446744073709551616)(a:x≠0)(c:Tab w):
  Calls prog 193 #[.int .u64 x] w λe w'=>e=.returned (.int .i64 (Lib.ctz 64 x))/\w=w':=by
 have H:=JE (Ae x w b a c);clear b a c;go_enter func193,ntmps193;go_wp2_with fail;refine H.out.mono ?_;rintro _ _ ⟨rfl,rfl⟩;go_wp2_with fail;go_ret;exact⟨rfl,rfl⟩
theorem tZ (n:Int)(w:World):Calls prog 161 #[.int .i64 n] w λe w'=>e=.returned (.bool (cH n))/\w=w':=by
 by_cases h:1<=n/\n<=1024
 ·obtain⟨N,rfl⟩:=Kc (by omega:0<=n)
  rw[zV N (by omega) (by omega)];have a:(1:Int)<=(N:Int):=h.1;have d:(N:Int)<=1024:=h.2;have i:IntKind.i64.wrap ((N:Int) - 1)=((N - 1:Nat):Int):=by rw[JI _ (by omega)];omega
  have g:bits .and .i64 (N:Int) ((N - 1:Nat):Int)=((N &&& (N - 1):Nat):Int):=tQ N (N - 1) (by omega) (by omega);have f:(((N &&& (N - 1):Nat):Int)==0)=decide (N &&& (N - 1)=0):=by
   by_cases c:N &&& (N - 1)=0
   ·rw[c];rfl
   ·rw[Kb c,JL];omega
  generalize decide (N &&& (N - 1)=0)=b at *;generalize N &&& (N - 1)=M at *;generalize ((N - 1:Nat):Int)=j at *;clear h;go_enter func161,ntmps161;go_wp2_with fail;go_ret;exact⟨rfl,rfl⟩
 ·rw[zW n h]
  by_cases a:1<=n
  ·have d:¬n<=1024:=λe=>h ⟨a,e⟩
   clear h;go_enter func161,ntmps161;go_wp2_with fail;go_ret;exact⟨rfl,rfl⟩
  ·clear h
   go_enter func161,ntmps161;go_wp2_with fail;go_ret;exact⟨rfl,rfl⟩
theorem oM (x n:Int)(w:World):Calls prog 124 #[.int .i64 x,.int .i64 n] w λe w'=>e=.returned (.bool (inB x n))/\w=w':=by
 have d:=JE (tZ n w);by_cases b:cH n=true
 ·have j:=mA b
  have l:IntKind.i64.wrap (2*n)=2*n:=JI _ (by omega);have k:IntKind.i64.wrap (2*n - 2)=2*n - 2:=JI _ (by omega);have f:inB x n=(decide (0<=x) && decide (x<2*n - 1)):=by unfold inB;rw[b];rfl
  have g:decide (x<2*n - 1)=decide (x<=2*n - 2):=by congr 1;exact propext ⟨λh=>by omega,λh=>by omega⟩
  rw[b] at d;rw[f,g];clear b j f g;by_cases i:0<=x
  ·have c:(decide (0<=x) && decide (x<=2*n - 2))=decide (x<=2*n - 2):=by simp[i]
   rw[c];clear c;go_enter func124,ntmps124;go_wp2_with fail;refine d.out.mono ?_;rintro _ _ ⟨rfl,rfl⟩;go_wp2_with fail;go_ret;exact⟨rfl,rfl⟩
  ·have c:(decide (0<=x) && decide (x<=2*n - 2))=false:=by simp;intro h;omega
   rw[c];clear c;go_enter func124,ntmps124;go_wp2_with fail;refine d.out.mono ?_;rintro _ _ ⟨rfl,rfl⟩;go_wp2_with fail;go_ret;exact⟨rfl,rfl⟩
 ·have a:cH n=false:=by rw[LM];exact b
  have f:inB x n=false:=by unfold inB;rw[a];rfl
  rw[a] at d;rw[f];clear b a f;go_enter func124,ntmps124;go_wp2_with fail;refine d.out.mono ?_;rintro _ _ ⟨rfl,rfl⟩;go_wp2_with fail;go_ret;exact⟨rfl,rfl⟩
theorem ua (x:Int):inB x 1024=decide (okN x):=by
 have h:cH 1024=true:=kX 10 (by omega);unfold inB okN;rw[h,Bool.true_and];by_cases a:0<=x
 ·by_cases b:x<=2046
  ·rw[Ke a,Ke (show x<2*1024 - 1 by omega),Ke (show 0<=x/\x<=2046 from⟨a,b⟩)];rfl
  ·rw[Ke a,Kb (show ¬x<2*1024 - 1 by omega),Kb (show ¬(0<=x/\x<=2046) from λh=>b h.2)];rfl
 ·rw[Kb a,Kb (show ¬(0<=x/\x<=2046) from λh=>a h.1)];rfl
theorem lk (x:Int)(w:World)(b:Tab w):Calls prog 158 #[.int .i64 x] w λe w'=>e=.returned (.int .i64 (eO x))/\w=w':=by
 have a:=JE (oM x 1024 w);rw[ua] at a;by_cases h:okN x
 ·obtain⟨j,q,rfl,d,c⟩:=(eN x).1 h
  have g:0<=((nd j q:Nat):Int)/\((nd j q:Nat):Int)<=2046:=h;rw[Ke h] at a;have f:=JE (Af (nd j q+1) w (by omega) (by omega) b);rw[zR j q d] at f;rw[fw d c];have k:IntKind.u64.wrap ((nd j q:Nat):Int)=((nd j q:Nat):Int):=by rw[Ny];omega
  have i:IntKind.u64.wrap (((nd j q:Nat):Int)+1)=((nd j q+1:Nat):Int):=by rw[Ny];omega
  generalize ((nd j q+1:Nat):Int)=Y at *;generalize ((nd j q:Nat):Int)=X at *;clear h g c b;go_enter func158,ntmps158;go_wp2_with fail;refine a.out.mono ?_;rintro _ _ ⟨rfl,rfl⟩;go_wp2_with fail;refine f.out.mono ?_;rintro _ _ ⟨rfl,rfl⟩;go_wp2_with fail;go_ret;exact⟨rfl,rfl⟩
 ·rw[Kb h] at a
  rw[mB h];clear h b;go_enter func158,ntmps158;go_wp2_with fail;refine a.out.mono ?_;rintro _ _ ⟨rfl,rfl⟩;go_wp2_with fail;go_ret;exact⟨rfl,rfl⟩
theorem uc : prog.globalNamed "math/bits.deBruijn64tab" = some 1 := by kernel_rfl
theorem Ag:(prog.globals[1]?).map (·.type)=some 279:=by kernel_rfl
theorem Ah:prog.cellsOf 279=64:=by kernel_rfl
theorem Ai:prog.cellsOf 5=1:=by kernel_rfl
theorem Aj (h : laidMetH prog [("math/bits.deBruijn32tab", Rows.laid_math_bits_deBruijn32tab), ("math/bits.deBruijn64tab", Rows.laid_math_bits_deBruijn64tab)] W) : Tab W := by
 have e : laidMet prog [("math/bits.deBruijn32tab", Rows.laid_math_bits_deBruijn32tab), ("math/bits.deBruijn64tab", Rows.laid_math_bits_deBruijn64tab)] W := h;have d := laidMet.tail e;have t : Lib.TabIs prog W "math/bits.deBruijn64tab" .u8 (Lib.deBruijn64tab.map λ(n : Nat) => (n : Int)) :=
  Lib.tabIs_of_head (rest:=[]) uc Ag underlying279 underlying5 Ai Ah d
 intro i b;have c:=t.cell uc i (by simpa using (show i<Lib.deBruijn64tab.length from b));rw[c];have a:i<Lib.deBruijn64tab.length:=b;simp[JF,a]
def ud (l:List Nat):Obj->Obj
 | .cells _ t frozen=>.cells (l.map fun(n:Nat)=>(.int .u8 (n:Int):Value)).toArray t frozen
 | o=>o
noncomputable def qO (os:Os):World:=
 { World.holding prog os ⟨#[],#[],[]⟩ with heap:=((World.holding prog os ⟨#[],#[],[]⟩).heap.modify 0 (ud Lib.deBruijn32tab)).modify 1 (ud Lib.deBruijn64tab) }
theorem lO (x:Int)(w:World):Calls prog 34 #[.int .i64 x] w λe w'=>e=.returned (.tuple #[.int .i64 (fc x),.int .i64 (chE x)])/\w=w':=by
 have a:=JE (qM x w);by_cases h:eO x=0
 ·rw[show fc x=0 from if_pos h,show chE x=1 from if_pos h]
  rw[h] at a;clear h;go_enter func34,ntmps34;go_wp2_with fail;refine a.out.mono ?_;rintro _ _ ⟨rfl,rfl⟩;go_wp2_with fail;go_ret2;exact⟨rfl,rfl⟩
 ·have b:okN x:=by
   by_cases l:okN x
   ·exact l
   ·exact absurd (mB l) h
  obtain⟨j,q,rfl,d,c⟩:=(eN x).1 b;have p:=(eN ((nd j q:Nat):Int)).2 ⟨j,q,rfl,d,c⟩;rw[fw d c] at h a;cases j with
  | zero=>exact absurd rfl h
  | succ j=>
   obtain⟨n,m,r⟩:=fK (j:=j) d c;rw[n,m];have o:=JE (tX j w (by omega));have g:(2:Nat) ^ j<=2 ^ 10:=Lm (by omega) (by omega);have i:=kU j q;have f:=kV j q;have v:IntKind.i64.wrap (((j+1:Nat):Int) - 1)=(j:Int):=by rw[JI _ (by omega)];omega
   obtain⟨M,k⟩:∃ M,2 ^ j=M:=⟨_,rfl⟩;rw[k] at o g i f;have u:IntKind.i64.wrap (((nd (j+1) q:Nat):Int) - (M:Int))=((nd j (2*q):Nat):Int):=by rw[JI _ (by omega)];omega
   have t:(((j+1:Nat):Int)==0)=false:=JL.2 (by omega);have s:¬((j+1:Nat):Int)=0:=by omega
   generalize ((nd (j+1) q:Nat):Int)=X at *;generalize ((nd j (2*q):Nat):Int)=Y at *;generalize ((j+1:Nat):Int)=J at *;clear h b p n m r g i f k d c;go_enter func34,ntmps34;go_wp2_with fail;refine a.out.mono ?_;rintro _ _ ⟨rfl,rfl⟩;go_wp2_with fail;refine o.out.mono ?_;rintro _ _ ⟨rfl,rfl⟩;go_wp2_with fail;go_ret2;exact⟨rfl,rfl⟩
theorem lP (x:Int)(w:World):Calls prog 35 #[.int .i64 x] w λe w'=>e=.returned (.tuple #[.int .i64 (fl x),.int .i64 (chE x)])/\w=w':=by
 have a:=JE (qM x w);by_cases h:eO x=0
 ·rw[show fl x=0 from if_pos h,show chE x=1 from if_pos h]
  rw[h] at a;clear h;go_enter func35,ntmps35;go_wp2_with fail;refine a.out.mono ?_;rintro _ _ ⟨rfl,rfl⟩;go_wp2_with fail;go_ret2;exact⟨rfl,rfl⟩
 ·have b:okN x:=by
   by_cases l:okN x
   ·exact l
   ·exact absurd (mB l) h
  obtain⟨j,q,rfl,d,c⟩:=(eN x).1 b;have p:=(eN ((nd j q:Nat):Int)).2 ⟨j,q,rfl,d,c⟩;rw[fw d c] at h a;cases j with
  | zero=>exact absurd rfl h
  | succ j=>
   obtain⟨n,r,m⟩:=fK (j:=j) d c;rw[n,m];have o:=JE (tX j w (by omega));have g:(2:Nat) ^ j<=2 ^ 10:=Lm (by omega) (by omega);have i:=kU j q;have f:=kV j q;have v:IntKind.i64.wrap (((j+1:Nat):Int) - 1)=(j:Int):=by rw[JI _ (by omega)];omega
   obtain⟨M,k⟩:∃ M,2 ^ j=M:=⟨_,rfl⟩;rw[k] at o g i f;have u:IntKind.i64.wrap (((nd (j+1) q:Nat):Int)+(M:Int))=((nd j (2*q+1):Nat):Int):=by rw[JI _ (by omega)];omega
   have t:(((j+1:Nat):Int)==0)=false:=JL.2 (by omega);have s:¬((j+1:Nat):Int)=0:=by omega
   generalize ((nd (j+1) q:Nat):Int)=X at *;generalize ((nd j (2*q+1):Nat):Int)=Y at *;generalize ((j+1:Nat):Int)=J at *;clear h b p n r m g i f k d c;go_enter func35,ntmps35;go_wp2_with fail;refine a.out.mono ?_;rintro _ _ ⟨rfl,rfl⟩;go_wp2_with fail;refine o.out.mono ?_;rintro _ _ ⟨rfl,rfl⟩;go_wp2_with fail;go_ret2;exact⟨rfl,rfl⟩
theorem Dg (p:Int):chE p=1\/chE p=0:=by unfold chE;split <;> simp
theorem Dh (p:Nat)(g:p<=2046)(k:j<=10):
  (chE (p:Int)=0/\(fc (p:Int)=((nd j q:Nat):Int)\/fl (p:Int)=((nd j q:Nat):Int)))↔p=nd (j+1) (q / 2):=by
 obtain⟨i,r,e,f,b⟩:=iE 10 p (by omega)
 subst e
 cases i with
 | zero=>
  obtain⟨a,d,c⟩:=zO (q:=r) (by simpa using b)
  rw[a]
  constructor
  ·rintro⟨h,_⟩;omega
  ·intro h;exact absurd (jd h).1 (by omega)
 | succ i=>
  obtain⟨a,d,c⟩:=fK (j:=i) f b
  rw[a,d,c]
  constructor
  ·rintro⟨_,h|h⟩
   ·obtain⟨rfl,rfl⟩:=jd (Int.ofNat.inj h)
    congr 1;omega
   ·obtain⟨rfl,rfl⟩:=jd (Int.ofNat.inj h)
    congr 1;omega
  ·intro h
   obtain⟨n,m⟩:=jd h
   obtain rfl:i=j:=by omega
   refine⟨rfl,?_⟩
   by_cases l:q % 2=0
   ·left;congr 2;omega
   ·right;congr 2;omega
theorem Di (X n:Int)(W T:Nat)(w:World)(O:IntKind.i64.wrap (2*n)=2*n)(r:2*n - 1=(W:Int))(H:W<=2047)(k:inB X n=true)(j:-9223372036854775808<=n/\n<=9223372036854775807)
  (C:∀ p:Nat,p<=2046->((chE (p:Int)=0/\(fc (p:Int)=X\/fl (p:Int)=X))↔p=T)):
  Calls prog 80 #[.int .i64 X,.int .i64 n] w λe w'=>e=.returned (if T<W then .tuple #[.int .i64 (T:Int),.int .i64 0] else .tuple #[.int .i64 0,.int .i64 11])/\w=w':=by
 have z:=JE (mD X n w j);rw[k] at z;have A:=JE C;have B:=JE (fun(p:Nat)=>lO (p:Int) w);have x:=JE (fun(p:Nat)=>lP (p:Int) w);have K:IntKind.i64.wrap (2*n - 1)=(W:Int):=by rw[r];exact JI _ (by omega)
 have M:IntKind.i64.wrap (W:Int)=(W:Int):=JI _ (by omega);obtain⟨V,s⟩:∃ V,(if T<W then (.tuple #[.int .i64 (T:Int),.int .i64 0]:Value) else .tuple #[.int .i64 0,.int .i64 11])=V:=⟨_,rfl⟩;rw[s];have q:=JE s;have v:=JE (Nat.lt_or_ge T W);clear C k j s;go_enter func80,ntmps80;go_wp2_with fail;refine z.out.mono ?_;rintro _ _ ⟨rfl,rfl⟩;clear z;go_wp2_with fail;go_loop [7] (λy=>∃ p:Nat,p<=W/\p<=T/\y=.int .i64 (p:Int)) (λy=>(W - (intOf y).toNat))
 case atStart=>exact⟨0,JW _,JW _,rfl⟩
 case round=>
  obtain⟨p,N,i,rfl⟩:=hrel;by_cases G:p<W
  ·have D:(p:Int)<(W:Int):=by omega
   have b:=A.out p (by omega);have f:=JE (B.out p);have d:=JE (x.out p);have J:IntKind.i64.wrap ((p:Int)+1)=(p:Int)+1:=JI _ (by omega);have F:=Dg (p:Int);clear A B x r;generalize chE (p:Int)=E at *;generalize fc (p:Int)=L at *;generalize fl (p:Int)=R at *;by_cases l:p=T
   ·obtain⟨o,u⟩:=b.2 l
    have c:Hid (V=.tuple #[.int .i64 (p:Int),.int .i64 0]):=by have:=q.out;rw[if_pos (by omega)] at this;rw[l];exact this.symm
    subst o;clear b F q v l i;by_cases m:L=X
    ·subst m
     clear u;go_wp2_with fail;refine f.out.mono ?_;rintro _ _ ⟨rfl,rfl⟩;go_wp2_with fail;refine d.out.mono ?_;rintro _ _ ⟨rfl,rfl⟩;go_wp2;go_ret2;exact⟨by rw[c.out] <;> rfl,rfl⟩
    ·have t:R=X:=u.resolve_left m
     subst t;have I:(L==R)=false:=JL.2 m;clear u;go_wp2_with fail;refine f.out.mono ?_;rintro _ _ ⟨rfl,rfl⟩;go_wp2_with fail;refine d.out.mono ?_;rintro _ _ ⟨rfl,rfl⟩;go_wp2;go_ret2;exact⟨by rw[c.out] <;> rfl,rfl⟩
   ·have a:¬(E=0/\(L=X\/R=X)):=λh=>l (b.1 h)
    have g:p+1<=T:=by omega
    clear b q v l i;rcases F with o|o
    ·subst o
     clear a;go_wp2_with fail;refine f.out.mono ?_;rintro _ _ ⟨rfl,rfl⟩;go_wp2_with fail;refine d.out.mono ?_;rintro _ _ ⟨rfl,rfl⟩;go_wp2;go_round
     case rel=>exact⟨p+1,by omega,g,by go_num⟩
     case measure=>simp[intOf];omega
    ·subst o
     have m:¬L=X:=λh=>a ⟨rfl,.inl h⟩
     have t:¬R=X:=λh=>a ⟨rfl,.inr h⟩
     have I:(L==X)=false:=JL.2 m;have P:(R==X)=false:=JL.2 t;clear a;go_wp2_with fail;refine f.out.mono ?_;rintro _ _ ⟨rfl,rfl⟩;go_wp2_with fail;refine d.out.mono ?_;rintro _ _ ⟨rfl,rfl⟩;go_wp2;go_round
     case rel=>exact⟨p+1,by omega,g,by go_num⟩
     case measure=>simp[intOf];omega
  ·obtain rfl:p=W:=by omega
   have c:Hid (V=.tuple #[.int .i64 0,.int .i64 11]):=by have:=q.out;rw[if_neg (by omega)] at this;exact this.symm
   clear A B x q v r i;go_wp2;go_ret2;exact⟨by rw[c.out] <;> rfl,rfl⟩
theorem pG (x n:Int)(w:World)(a:-9223372036854775808<=n/\n<=9223372036854775807):Calls prog 80 #[.int .i64 x,.int .i64 n] w λe w'=>e=.returned (.tuple #[.int .i64 (paV x n),.int .i64 (paE x n)])/\w=w':=by
 by_cases h:inB x n=true
 ·obtain⟨K,j,q,i,rfl,rfl,u,d⟩:=(iF x n).1 h
  obtain⟨_,g,m⟩:=ec i u d;have y:=bP i;have l:=bE K;have v:=bi K;obtain⟨W,o⟩:∃ W,2 ^ (K+1) - 1=W:=⟨_,rfl⟩;have:=Di ((nd j q:Nat):Int) ((2 ^ K:Nat):Int) W (nd (j+1) (q / 2)) w (JI _ (by omega)) (by omega) (by omega) h a (λp t=>Dh p t g);refine this.mono ?_;rintro _ _ ⟨rfl,rfl⟩;by_cases s:j=K
  ·subst s
   have k:q=0:=by simp at d;exact d
   subst k;obtain⟨c,b,_⟩:=tN i;rw[c,b,if_neg]
   ·exact⟨rfl,rfl⟩
   ·intro f
    rw[<-o] at f;have:=(zK f).1;omega
  ·obtain⟨c,b,_⟩:=oK (K:=K) (j:=j) (q:=q) i (by omega) d
   rw[c,b,if_pos]
   ·exact⟨rfl,rfl⟩
   ·rw[<-o]
    refine fU (by omega) ?_;have e:K - j=(K - (j+1))+1:=by omega
    rw[e,bi] at d;omega
 ·obtain⟨c,b,_⟩:=tM h
  have l:inB x n=false:=by rw[LM];exact h
  have r:=JE (mD x n w a);rw[l] at r;rw[c,b];clear h l c b a;go_enter func80,ntmps80;go_wp2_with fail;refine r.out.mono ?_;rintro _ _ ⟨rfl,rfl⟩;go_wp2_with fail;go_ret2;exact⟨rfl,rfl⟩
theorem xH (n:Int)(w:World):Calls prog 127 #[.int .i64 n] w λe w'=>e=.returned (.tuple #[.int .i64 (gF n),.int .i64 (gD n)])/\w=w':=by
 have c:=JE (tZ n w);by_cases a:cH n=true
 ·have d:=mA a
  have g:IntKind.i64.wrap (2*n)=2*n:=JI _ (by omega);have f:IntKind.i64.wrap (2*n - 1)=2*n - 1:=JI _ (by omega);rw[show gF n=2*n - 1 from if_pos a,show gD n=0 from if_pos a];rw[a] at c;clear a d;go_enter func127,ntmps127;go_wp2_with fail;refine c.out.mono ?_;rintro _ _ ⟨rfl,rfl⟩;go_wp2_with fail;go_ret2;exact⟨rfl,rfl⟩
 ·have b:cH n=false:=by rw[LM];exact a
  rw[show gF n=0 from if_neg a,show gD n=1 from if_neg a];rw[b] at c;clear a b;go_enter func127,ntmps127;go_wp2_with fail;refine c.out.mono ?_;rintro _ _ ⟨rfl,rfl⟩;go_wp2_with fail;go_ret2;exact⟨rfl,rfl⟩
theorem lX {k:Nat}(h:k<=10):((2 ^ k:Nat):Int)<=1024/\1<=((2 ^ k:Nat):Int):=by have:=bP h;have:=bE k;omega
theorem xI (k:Nat)(h:k<=10):IntKind.i64.wrap (1*2 ^ k)=((2 ^ k:Nat):Int):=by
 have a:=lX h;have e:(1:Int)*2 ^ k=((2 ^ k:Nat):Int):=by push_cast;omega
 rw[e];exact JI _ (by omega)
theorem xJ (k:Nat)(h:k<=10):IntKind.i64.wrap (2 ^ k)=((2 ^ k:Nat):Int):=by
 have:=xI k h;rwa [Int.one_mul] at this
theorem ED (k:Nat)(h:k<=10):IntKind.i64.wrap (-1*2 ^ k) = -((2 ^ k:Nat):Int):=by
 have a:=lX h;have e:(-1:Int)*2 ^ k = -((2 ^ k:Nat):Int):=by push_cast;omega
 rw[e];exact JI _ (by omega)
theorem xK (j q:Nat)(s:Int)(w:World)(c:j+1<=10)(b:q<2 ^ (10 - (j+1)))(a:s=1\/s = -1)(d:Tab w):
  Calls prog 165 #[.int .i64 ((nd (j+1) q:Nat):Int),.int .i64 s] w λe w'=>e=.returned (.tuple #[.int .i64 (((nd (j+1) q:Nat):Int)+s*((2 ^ j:Nat):Int)),.int .i64 0])/\w=w':=by
 have f:=JE (lk ((nd (j+1) q:Nat):Int) w d);rw[fw c b] at f;have g:=(eN ((nd (j+1) q:Nat):Int)).2 ⟨j+1,q,rfl,c,b⟩;obtain⟨m,l⟩:=lX (k:=j) (by omega);have t:IntKind.i64.wrap (((j+1:Nat):Int) - 1)=(j:Int):=by rw[JI _ (by omega)];omega
 have i:¬((j+1:Nat):Int)=0:=by omega
 have h:(((j+1:Nat):Int)==0)=false:=JL.2 i;have r:IntKind.i64.wrap (s*2 ^ j)=s*((2 ^ j:Nat):Int):=by
  rcases a with rfl|rfl
  ·rw[xI j (by omega)];omega
  ·rw[ED j (by omega)];omega
 have p:IntKind.i64.wrap (((nd (j+1) q:Nat):Int)+s*((2 ^ j:Nat):Int))=((nd (j+1) q:Nat):Int)+s*((2 ^ j:Nat):Int):=JI _ (by rcases a with rfl|rfl <;> omega);have o:((j:Int)).toNat=j:=JX j;have n:(j:Int)<=64:=by omega
 generalize s*((2 ^ j:Nat):Int)=M at *;generalize ((j+1:Nat):Int)=u at *;generalize ((nd (j+1) q:Nat):Int)=X at *;clear g b c d m l a;go_enter func165,ntmps165;go_wp2_with fail;refine f.out.mono ?_;rintro _ _ ⟨rfl,rfl⟩;go_wp2_with fail;go_ret2;exact⟨rfl,rfl⟩
theorem xL (x s:Int)(w:World)(h:eO x=0)(a:Tab w):
  Calls prog 165 #[.int .i64 x,.int .i64 s] w λe w'=>e=.returned (.tuple #[.int .i64 0,.int .i64 1])/\w=w':=by
 have b:=JE (lk x w a);rw[h] at b;clear h a;go_enter func165,ntmps165;go_wp2_with fail;refine b.out.mono ?_;rintro _ _ ⟨rfl,rfl⟩;go_wp2_with fail;go_ret2;exact⟨rfl,rfl⟩
theorem xM (x:Int):eO x=0\/∃ j q,x=((nd (j+1) q:Nat):Int)/\j+1<=10/\q<2 ^ (10 - (j+1)):=by
 by_cases h:okN x
 ·obtain⟨j,q,rfl,b,a⟩:=(eN x).1 h
  cases j with
  | zero=>exact .inl (fw b a)
  | succ j=>exact .inr ⟨j,q,rfl,b,a⟩
 ·exact .inl (mB h)
theorem sL (x:Int)(w:World)(a:Tab w):Calls prog 128 #[.int .i64 x] w λe w'=>e=.returned (.tuple #[.int .i64 (fc x),.int .i64 (chE x)])/\w=w':=by
 have H:Hid (Calls prog 165 #[.int .i64 x,.int .i64 (-1)] w λe w'=>e=.returned (.tuple #[.int .i64 (fc x),.int .i64 (chE x)])/\w=w'):=by
  rcases xM x with h|⟨j,q,rfl,f,d⟩
  ·have c:fc x=0:=if_pos h
   have b:chE x=1:=if_pos h;rw[c,b];exact xL x (-1) w h a
  ·obtain⟨c,b,_⟩:=fK f d
   obtain⟨i,g⟩:=kU j q;have:=xK j q (-1) w f d (.inr rfl) a;rw[c,b];rwa [show((nd (j+1) q:Nat):Int)+-1*((2 ^ j:Nat):Int)=((nd j (2*q):Nat):Int) by omega] at this
 clear a;go_enter func128,ntmps128;go_wp2_with fail;refine H.out.mono ?_;rintro _ _ ⟨rfl,rfl⟩;go_wp2_with fail;go_ret2;exact⟨rfl,rfl⟩
theorem xN (x:Int)(w:World)(a:Tab w):Calls prog 129 #[.int .i64 x] w λe w'=>e=.returned (.tuple #[.int .i64 (fl x),.int .i64 (chE x)])/\w=w':=by
 have H:Hid (Calls prog 165 #[.int .i64 x,.int .i64 1] w λe w'=>e=.returned (.tuple #[.int .i64 (fl x),.int .i64 (chE x)])/\w=w'):=by
  rcases xM x with h|⟨j,q,rfl,f,d⟩
  ·have c:fl x=0:=if_pos h
   have b:chE x=1:=if_pos h;rw[c,b];exact xL x 1 w h a
  ·obtain⟨c,_,b⟩:=fK f d
   have g:=kV j q;have:=xK j q 1 w f d (.inl rfl) a;rw[c,b];rwa [show((nd (j+1) q:Nat):Int)+1*((2 ^ j:Nat):Int)=((nd j (2*q+1):Nat):Int) by omega] at this
 clear a;go_enter func129,ntmps129;go_wp2_with fail;refine H.out.mono ?_;rintro _ _ ⟨rfl,rfl⟩;go_wp2_with fail;go_ret2;exact⟨rfl,rfl⟩
theorem EE (j q:Nat)(w:World)(i:j<10)(a:q<2 ^ (10 - j))(b:Tab w):
  Calls prog 164 #[.int .i64 ((nd j q:Nat):Int)] w λe w'=>e=.returned (.int .i64 ((nd (j+1) (q / 2):Nat):Int))/\w=w':=by
 have f:=JE (lk ((nd j q:Nat):Int) w b);rw[fw (by omega) a] at f;have g:=(eN ((nd j q:Nat):Int)).2 ⟨j,q,rfl,by omega,a⟩;obtain⟨m,l⟩:=lX (k:=j) (by omega);have u:=xJ j (by omega);have t:IntKind.i64.wrap (2*((2 ^ j:Nat):Int))=((2 ^ (j+1):Nat):Int):=by rw[bi,JI _ (by omega)];omega
 have d:=tQ (nd j q) (2 ^ (j+1)) (by omega) (by rw[bi];omega);rw[zS] at d;have s:((j:Int)).toNat=j:=JX j;have r:(j:Int)<=64:=by omega
 by_cases h:q % 2=0
 ·have c:=tT j q h
  have o:IntKind.i64.wrap (((nd j q:Nat):Int)+((2 ^ j:Nat):Int))=((nd (j+1) (q / 2):Nat):Int):=by rw[JI _ (by omega)];omega
  rw[if_pos h] at d;generalize ((nd (j+1) (q / 2):Nat):Int)=Y at *;generalize ((2 ^ (j+1):Nat):Int)=B at *;generalize ((nd j q:Nat):Int)=X at *;generalize ((2 ^ j:Nat):Int)=A at *;clear g a i b m l h c;go_enter func164,ntmps164;go_wp2_with fail;refine f.out.mono ?_;rintro _ _ ⟨rfl,rfl⟩;go_wp2_with fail;go_ret;exact⟨rfl,rfl⟩
 ·obtain⟨c,n⟩:=tU j q h
  have o:IntKind.i64.wrap (((nd j q:Nat):Int) - ((2 ^ j:Nat):Int))=((nd (j+1) (q / 2):Nat):Int):=by rw[JI _ (by omega)];omega
  rw[if_neg h] at d;have p:(((2 ^ (j+1):Nat):Int)==0)=false:=JL.2 (by have:=bE (j+1);omega);generalize ((nd (j+1) (q / 2):Nat):Int)=Y at *;generalize ((2 ^ (j+1):Nat):Int)=B at *;generalize ((nd j q:Nat):Int)=X at *;generalize ((2 ^ j:Nat):Int)=A at *;clear g a i b m l h c n;go_enter func164,ntmps164;go_wp2_with fail;refine f.out.mono ?_;rintro _ _ ⟨rfl,rfl⟩;go_wp2_with fail;go_ret;exact⟨rfl,rfl⟩
theorem EF (n:Int)(w:World)(a:-9223372036854775807<=n/\n<=9223372036854775807):Calls prog 163 #[.int .i64 n] w λe w'=>e=.returned (.int .i64 (n - 1))/\w=w':=by
 have b:IntKind.i64.wrap (n - 1)=n - 1:=JI _ (by omega);go_enter func163,ntmps163;go_wp2_with fail;go_ret;exact⟨rfl,rfl⟩
theorem xO {K:Nat}(b:K<=10)(a:q<2 ^ (K - j)):q<2 ^ (10 - j):=JV a (Lm (by omega) (by omega))
theorem EG (j q:Nat)(w:World)(d:j<10)(a:q<2 ^ (10 - j)):
  Calls prog 126 #[.int .i64 ((nd j q:Nat):Int),.int .i64 ((nd (j+1) (q / 2):Nat):Int)] w λe w'=>e=.returned (.int .i64 ((nd j (sq q):Nat):Int))/\w=w':=by
 have f:=zT j q;have c:=(eN ((nd j q:Nat):Int)).2 ⟨j,q,rfl,by omega,a⟩;have b:=(eN ((nd (j+1) (q / 2):Nat):Int)).2 ⟨j+1,q / 2,rfl,by omega,by
  have:2 ^ (10 - j)=2*2 ^ (10 - (j+1)):=by rw[show 10 - j=(10 - (j+1))+1 by omega,bi]
  omega⟩
 have h:IntKind.i64.wrap (2*((nd (j+1) (q / 2):Nat):Int))=2*((nd (j+1) (q / 2):Nat):Int):=JI _ (by omega);have g:IntKind.i64.wrap (2*((nd (j+1) (q / 2):Nat):Int) - ((nd j q:Nat):Int))=((nd j (sq q):Nat):Int):=by rw[JI _ (by omega)];omega
 generalize ((nd (j+1) (q / 2):Nat):Int)=Y at *;generalize ((nd j q:Nat):Int)=X at *;generalize ((nd j (sq q):Nat):Int)=Z at *;clear f c b a d;go_enter func126,ntmps126;go_wp2_with fail;go_ret;exact⟨rfl,rfl⟩
theorem EH (x:Int)(w:World)(g:Tab w):Calls prog 119 #[.int .i64 x] w λe w'=>e=.returned (.tuple #[.int .i64 (loV x),.int .i64 (hiV x)])/\w=w':=by
 have c:=JE (oM x 1024 w);rw[ua] at c;by_cases h:okN x
 ·obtain⟨j,q,rfl,d,f⟩:=(eN x).1 h
  rw[Ke h] at c;obtain⟨b,a⟩:=kY d f;rw[b,a];have i:=JE (lk ((nd j q:Nat):Int) w g);rw[fw d f] at i;have k:0<=((nd j q:Nat):Int)/\((nd j q:Nat):Int)<=2046:=h;obtain⟨r,p⟩:=lX d;obtain⟨o,n⟩:=zL j q;have m:2 ^ j - 1<=nd j q:=by unfold nd;omega
  have D:=xJ j d;have C:IntKind.i64.wrap (((2 ^ j:Nat):Int) - 1)=((2 ^ j:Nat):Int) - 1:=JI _ (by omega);have B:IntKind.i64.wrap (((nd j q:Nat):Int) - (((2 ^ j:Nat):Int) - 1))=((nd j q - (2 ^ j - 1):Nat):Int):=by rw[JI _ (by omega)];omega
  have z:IntKind.i64.wrap (((nd j q:Nat):Int)+(((2 ^ j:Nat):Int) - 1))=((nd j q+(2 ^ j - 1):Nat):Int):=by rw[JI _ (by omega)];omega
  have u:((nd j q - (2 ^ j - 1):Nat):Int).tdiv 2=((2 ^ j*q:Nat):Int):=by rw[Kx (by omega)];omega
  have t:((nd j q+(2 ^ j - 1):Nat):Int).tdiv 2=((2 ^ j*q+2 ^ j - 1:Nat):Int):=by rw[Kx (by omega)];omega
  have s:IntKind.i64.wrap ((2 ^ j*q:Nat):Int)=((2 ^ j*q:Nat):Int):=JI _ (by omega);have l:IntKind.i64.wrap ((2 ^ j*q+2 ^ j - 1:Nat):Int)=((2 ^ j*q+2 ^ j - 1:Nat):Int):=JI _ (by omega);have y:((j:Int)).toNat=j:=JX j;have v:(j:Int)<=64:=by omega
  generalize ((nd j q - (2 ^ j - 1):Nat):Int)=U at *;generalize ((nd j q+(2 ^ j - 1):Nat):Int)=V at *;generalize ((2 ^ j*q:Nat):Int)=E at *;generalize ((2 ^ j*q+2 ^ j - 1:Nat):Int)=F at *;generalize ((nd j q:Nat):Int)=X at *;generalize ((2 ^ j:Nat):Int)=A at *;clear h k r p o n m b a f g;go_enter func119,ntmps119;go_wp2_with fail;refine c.out.mono ?_;rintro _ _ ⟨rfl,rfl⟩;go_wp2_with fail;refine i.out.mono ?_;rintro _ _ ⟨rfl,rfl⟩;go_wp2_with fail;go_ret2;exact⟨rfl,rfl⟩
 ·rw[Kb h] at c
  obtain⟨b,a⟩:=tP h;rw[b,a];clear h b a g;go_enter func119,ntmps119;go_wp2_with fail;refine c.out.mono ?_;rintro _ _ ⟨rfl,rfl⟩;go_wp2_with fail;go_ret2;exact⟨rfl,rfl⟩
def pT (P:Program)(gf:Nat)(lb:Array Value)(T:Nat->Array Value->(Nat->Prop)->World->Prop)(N:Nat)(R:Nat->Prop)(w:World):Prop:=
 ∀ (l:Nat) (J Jx:Nat->(Nat->Prop)->World->Prop) (W:World),aR R w W->w.heap.size<=l->l<W.heap.size ->
  (∀ i,ed W.heap.size (J i))->(∀ i,ed W.heap.size (Jx i)) ->
  (∀ i Y A v m,i<N->J i Y A->(∀ k,Y k->W.heap.size<=k/\k<A.heap.size)->aR R w A->T i v Y A ->
   YieldAt Fence.wide m P l v A λe B=>aR (λk=>Y k\/R k) A B/\((e=.returned (.bool true)/\J (i+1) Y B)\/(e=.returned (.bool false)/\Jx i Y B))) ->
  J 0 (λ_=>False) W ->
  Calls P gf (#[.func (.yield l) #[] #[]]++lb) W λe B=>(∃ v,e=.returned v)/\∃ Y,(∀ k,Y k->W.heap.size<=k/\k<B.heap.size)/\(J N Y B\/∃ i,i<N/\Jx i Y B)
theorem sM 
    (hg:a.eval g=.func (.func gf) #[] lb) (eg:∀ args w,(callFunc gf args).run P w=.ok (.enter gf args) w)
  {T:Nat->Array Value->(Nat->Prop)->World->Prop}    (af:Kp w0 w) (an:∀ k,R k->k<w0.heap.size) (aw:pT P gf lb T N R w0) (aG:∀ i v Y A,T i v Y A->v.size=ps.size)
  (I:Nat->(Nat->Prop)->World->Prop) (Ix:Code->Nat->(Nat->Prop)->World->Prop)
  (hI:∀ i,ed w.heap.size (I i)) (ap:∀ c i,ed w.heap.size (Ix c i))
  (aP:∀ i v q Y A B l o,T i v q A->(∀ k,q k->Y k)->(∀ k,Y k->q k\/∃ o:Obj,A.heap[k]?=some o/\o.isCells=false)->w.heap.size<=l->A.heap[l]?=some (.loop o)->az (λk=>k=l) A B->T i v Y B)
  (h0:I 0 (λ_=>False) w) (Ax:Array Value->Act->World->Prop)
  (aW:∀ v M A l o o',Ax v M A->w.heap.size<=l->A.heap[l]?=some (.loop o)->Ax v M (A.putObj l o'))
  (ad:∀ (l i:Nat) (Y q:Nat->Prop) (v:Array Value) (A:World) (K:Act->World->Prop),I i Y A->T i v q A->(∀ M A',Kp A A'->Ax v M A'->K M A') ->
   assign.wpIn (Fence.wide.inRound l) 4 P (Exit.then K (λ_ _ _=>False)) { tmps:=(ps.zip v).foldl (λt (p,v)=>t.setIfInBounds p v) a.tmps,defers:=[] } A)
  (am:∀ (l i:Nat) (Y:Nat->Prop) (v:Array Value) (M:Act) (A:World),i<N->I i Y A->(∀ k,Y k->w.heap.size<=k/\k<A.heap.size)->aR R w A->T i v Y A->Ax v M A ->
   body.wpIn (Fence.wide.inRound l) 4 P (λe _ B=>aR (λk=>Y k\/R k) A B/\((e=.normal/\I (i+1) Y B)\/∃ c,lj e=some c/\Ix c i Y B)) M A)
  (al:∀ (D:Nat) (Y:Nat->Prop) (W:World),w.heap.size<=D->Y D->(∀ k,Y k->w.heap.size<=k)->I N Y W->W.heap[D]?=some (.deferred (some []))->Q .normal { a with defers:={ target:=.collected D,args:=#[] } :: a.defers } W)
  (ag:∀ (D:Nat) (c:Code) (i:Nat) (Y:Nat->Prop) (W:World),w.heap.size<=D->Y D->(∀ k,Y k->w.heap.size<=k)->i<N->Ix c i Y W->W.heap[D]?=some (.deferred (some []))->c.wp P Q { a with defers:={ target:=.collected D,args:=#[] } :: a.defers } W):
  (Code.rangeFunc g ps assign body).wp P Q a w:=by
 have hR:∀ k,R k->k<w.heap.size:=λk b=>JV (an k b) af.size
 refine(wpIn_wide (n:=6)).1 (wpIn_rangeFunc ?_);intro fn aJ;rw[show Fence.wide.round=none from rfl];let rec':LoopState->Option Code->Loop:=λst pe=>{ state:=st,pending:=pe,fn,tmps:=a.tmps,params:=ps,assign,body,defers:=w.heap.size }
 obtain⟨H,ae⟩:∃ H,(w.alloc (.deferred (some []))).alloc (.loop (rec' .ready none))=H:=⟨_,rfl⟩;have aV:H.heap[w.heap.size]?=some (.deferred (some [])):=by
  rw[<-ae];exact(Below.heap_alloc _ _ _ (by simp)).trans (heap_alloc_new w _)
 have aT:H.heap[w.heap.size+1]?=some (.loop (rec' .ready none)):=by
  rw[<-ae];have:=heap_alloc_new (w.alloc (.deferred (some []))) (.loop (rec' .ready none));rwa [JY] at this
 have aX:H.heap.size=w.heap.size+2:=by rw[<-ae];simp
 have aA:Kp w H:=by rw[<-ae];exact((NQ w).alloc _).alloc _
 let V:Nat->(Nat->Prop)->World->(Nat->Prop)->Prop:=λi q A Y=>I i Y A/\(∀ k,q k->Y k)/\(∀ k,Y k->q k\/k=w.heap.size\/k=w.heap.size+1)/\(∀ k,Y k->w.heap.size<=k/\k<A.heap.size)/\Y w.heap.size/\Y (w.heap.size+1) /\
  A.heap[w.heap.size]?=some (.deferred (some []))/\A.heap[w.heap.size+1]?=some (.loop (rec' .ready none))
 let Vx:Nat->(Nat->Prop)->World->(Nat->Prop)->Code->Prop:=λi q A Y c=>Ix c i Y A/\(∀ k,q k->Y k)/\(∀ k,Y k->q k\/k=w.heap.size\/k=w.heap.size+1)/\(∀ k,Y k->w.heap.size<=k/\k<A.heap.size)/\Y w.heap.size/\Y (w.heap.size+1) /\
  A.heap[w.heap.size]?=some (.deferred (some []))/\A.heap[w.heap.size+1]?=some (.loop (rec' .done (some c)))
 have hV:∀ i,ed H.heap.size (λq A=>∃ Y,V i q A Y):=by
  rintro i q ar A B ⟨Y,hi,s,y,d,j,f,hd,J⟩ x r Z;have ah:¬q w.heap.size:=λe=>by have:=(x _ e).1;omega
  have F:¬q (w.heap.size+1):=λe=>by have:=(x _ e).1;omega
  have aq:=(d _ j).2;have ao:=(d _ f).2;refine⟨λk=>ar k\/k=w.heap.size\/k=w.heap.size+1,hI i Y _ A B hi d (r.mono s) (λk b=>?_),λk b=>.inl b,λk b=>b,λk b=>?_,.inr (.inl rfl),.inr (.inr rfl),(r.block _ aq ah).trans hd,(r.block _ ao F).trans J⟩
  ·rcases b with b|rfl|rfl
   ·exact(Z k b).imp (s k) id
   ·exact .inl j
   ·exact .inl f
  ·have:=r.size
   rcases b with b|rfl|rfl
   ·rcases Z k b with h|h
    ·have:=d k (s k h);omega
    ·have:=d _ j;omega
   ·omega
   ·omega
 have aN:∀ i,ed H.heap.size (λq A=>∃ Y c,Vx i q A Y c):=by
  rintro i q ar A B ⟨Y,c,hi,s,y,d,j,f,hd,J⟩ x r Z;have ah:¬q w.heap.size:=λe=>by have:=(x _ e).1;omega
  have F:¬q (w.heap.size+1):=λe=>by have:=(x _ e).1;omega
  have aq:=(d _ j).2;have ao:=(d _ f).2;refine⟨λk=>ar k\/k=w.heap.size\/k=w.heap.size+1,c,ap c i Y _ A B hi d (r.mono s) (λk b=>?_),λk b=>.inl b,λk b=>b,λk b=>?_,.inr (.inl rfl),.inr (.inr rfl),(r.block _ aq ah).trans hd,(r.block _ ao F).trans J⟩
  ·rcases b with b|rfl|rfl
   ·exact(Z k b).imp (s k) id
   ·exact .inl j
   ·exact .inl f
  ·have:=r.size
   rcases b with b|rfl|rfl
   ·rcases Z k b with h|h
    ·have:=d k (s k h);omega
    ·have:=d _ j;omega
   ·omega
   ·omega
 refine⟨w.heap.size+1,[{ target:=.collected w.heap.size,args:=#[] }],H,{ target:=.fn (.func gf) lb,args:=#[.func (.yield (w.heap.size+1)) #[] #[]] },H,gf,
  #[.func (.yield (w.heap.size+1)) #[] #[]]++lb,H,?_,?_,?_,?_,λ_=>by omega,?_⟩
 ·rw[<-ae];exact run_enterLoop_outer _ _ _ _ _
 ·simp only[resolve,hg]
  simp[go_sem]
 ·intro f' aY
  trivial
 ·simp[invoke,go_sem,eg]
 ·refine callsIn_wide.2 ((aw (w.heap.size+1) (λi q A=>∃ Y,V i q A Y) (λi q A=>∃ Y c,Vx i q A Y c) H (aR.of_kp (af.trans aA)) (by have:=af.size;omega) (by omega) hV aN ?_
   ⟨λk=>k=w.heap.size\/k=w.heap.size+1,hI 0 _ _ w H h0 (λk b=>b.elim) (NY aA) (λk b=>.inr (by rcases b with rfl|rfl <;> omega)),λk b=>b.elim,λk b=>.inr b,λk b=>by rcases b with rfl|rfl <;> omega,.inl rfl,.inr rfl,aV,aT⟩).mono ?_)
  ·rintro i q A v m hi ⟨Y,aE,s,y,d,j,f,hd,J⟩ x aD hT
   have aS:aR R w A:=⟨by have:=(d _ f).2;omega,λk _ U=>(aD.block k (an k U) U).trans (af.block k (an k U)).symm⟩;have ai:w.heap.size+1<A.heap.size:=(d _ f).2;have hy:=run_yield (P:=P) (args:=v) J (aG i v q A hT);have aO:∀ B,az (λk=>k=w.heap.size+1) A B->T i v Y B:=λB hB=>aP i v q Y A B _ _ hT s (λk b=>(y k b).imp id (λh=>h.elim (λe=>⟨_,e▸hd,rfl⟩) (λe=>⟨_,e▸J,rfl⟩))) (by omega) J hB
   have aQ:∀ k,R k->k≠w.heap.size+1:=λk b=>by have:=hR k b;omega
   refine YieldAt.anyDepth m (m:=4) ⟨fn,_,assign,body,hy,roundIn_of_wpIn aJ (ad _ i Y q v A _ aE hT ?_)⟩;intro M A1 X aM;have aj:=(X.block _ ai).trans J;have aL:=(X.block _ (d _ j).2).trans hd;refine⟨_,run_beginRound aj rfl,?_⟩;have ay:w.heap.size+1<A1.heap.size:=(JK.1 aj).1;obtain⟨E,z⟩:∃ E,A1.putObj (w.heap.size+1) (.loop { rec' .ready none with state:=.busy })=E:=⟨_,rfl⟩;rw[z];have av:az (λk=>k=w.heap.size+1) A E:=by rw[<-z];exact(NY X).putObj _ _ (.inr rfl)
   have r:az Y A E:=by rw[<-z];exact(NY X).putObj _ _ (.inr f)
   have aH:E.heap[w.heap.size+1]?=some (.loop { rec' .ready none with state:=.busy }):=by rw[<-z];exact World.putObj_heap_same ay
   have aK:E.heap[w.heap.size]?=some (.deferred (some [])):=by rw[<-z];exact(World.putObj_heap_other (by omega)).trans aL
   have aB:Ax v M E:=by rw[<-z];exact aW v M A1 _ _ _ aM (by omega) aj
   have C:∀ k,Y k->w.heap.size<=k/\k<E.heap.size:=λk b=>⟨(d k b).1,JV (d k b).2 r.size⟩
   have aU:=hI i Y Y A E aE d r (λk b=>.inl b);have aC:aR R w E:=(aS.trans (aR.of_step r (λk b hy=>by have:=hR k b;have:=(d k hy).1;omega)));refine wpIn_mono (am _ i Y v M E hi aU C aC (aO E av) aB) ?_;have aF:∀ (u:Option Code) (B:World),aR (λk=>Y k\/R k) E B->∃ B',(Instr.endRound (w.heap.size+1) u).run P B=.ok (.bool u.isNone) B' /\
     B'.heap[w.heap.size+1]?=some (.loop (rec' (if u.isNone then .ready else .done) u))/\B'.heap[w.heap.size]?=some (.deferred (some []))/\az Y B B'/\(∀ k,Y k->w.heap.size<=k/\k<B.heap.size)/\aR (λk=>q k\/R k) A B':=λu B hh=>by
    have G:=(hh.block _ (C _ f).2 (.inl f)).trans aH;have ab:=(hh.block _ (C _ j).2 (.inl j)).trans aK;have ax:w.heap.size+1<B.heap.size:=(JK.1 G).1;have F:∀ k,q k\/R k->k≠w.heap.size+1:=λk b=>by
     rcases b with h|h
     ·have:=(x _ h).1;omega
     ·exact aQ k h
    refine⟨_,run_endRound (P:=P) u G,World.putObj_heap_same ax,(World.putObj_heap_other (by omega)).trans ab,(NU Y B).putObj _ _ (.inr f),λk b=>⟨(d k b).1,JV (C k b).2 hh.size⟩,⟨?_,λk b U=>?_⟩⟩
    ·rw[mE];exact Kd r.size hh.size
    ·have e1:E.heap[k]?=A.heap[k]?:=by
      rw[<-z];exact(World.putObj_heap_other (F k U)).trans (X.block k b)
     refine(World.putObj_heap_other (F k U)).trans ((hh.block k (JV b r.size) ?_).trans e1);exact U.elim (λh=>.inl (s k h)) .inr
   have au:∀ (u:Option Code) (B B':World),az Y B B'->(∀ k,Y k->w.heap.size<=k/\k<B.heap.size)->(∀ k,Y k->w.heap.size<=k/\k<B'.heap.size):=λ_ B B' h hy k b=>⟨(hy k b).1,JV (hy k b).2 h.size⟩
   rintro e a3 B ⟨hh,hp⟩;have go:∀ c,lj e=some c->Ix c i Y B->∃ v B',(Instr.endRound (w.heap.size+1) (some c)).run P B=.ok v B' /\
     (aR (λk=>q k\/R k) A B'/\((Ending.returned v=.returned (.bool true)/\∃ Y,V (i+1) q B' Y)\/(Ending.returned v=.returned (.bool false)/\∃ Y c,Vx i q B' Y c))):=λc L hx=>by
    obtain⟨B',U,G,ab,S,O,ak⟩:=aF (some c) B hh;exact⟨_,B',U,ak,.inr ⟨rfl,Y,c,ap c i Y Y B B' hx O S (λk b=>.inl b),s,y,au none B B' S O,j,f,ab,G⟩⟩
   cases e with
   | normal=>
    rcases hp with⟨_,hi3⟩|⟨c,L,_⟩
    ·obtain⟨B',U,G,ab,S,O,ak⟩:=aF none B hh
     exact⟨_,B',U,ak,.inl ⟨rfl,Y,hI (i+1) Y Y B B' hi3 O S (λk b=>.inl b),s,y,au none B B' S O,j,f,ab,G⟩⟩
    ·cases L
   | ret=>
    rcases hp with⟨h,_⟩|⟨c,L,hx⟩
    ·cases h
    ·cases L;exact go _ rfl hx
   | exit id=>
    rcases hp with⟨h,_⟩|⟨c,L,hx⟩
    ·cases h
    ·cases L;exact go _ rfl hx
   | goto t=>
    rcases hp with⟨h,_⟩|⟨c,L,hx⟩
    ·cases h
    ·cases L;exact go _ rfl hx
   | panic ch=>
    rcases hp with⟨h,_⟩|⟨c,L,_⟩
    ·cases h
    ·cases L
   | outgrown=>
    rcases hp with⟨h,_⟩|⟨c,L,_⟩
    ·cases h
    ·cases L
  ·rintro e W2 ⟨⟨v,rfl⟩,q,x,(⟨Y,hi,s,y,d,j,f,hd,J⟩|⟨i,aI,Y,c,hi,s,y,d,j,f,hd,J⟩)⟩
   ·have ai:w.heap.size+1<W2.heap.size:=(d _ f).2
    have aa:(Instr.endLoop (w.heap.size+1)).run P W2=.ok none (W2.putObj (w.heap.size+1) (.loop (rec' .exhausted none))):=run_endLoop (P:=P) J (by simp[rec']);refine⟨none,_,aa,al _ Y _ (JO _) j (λk b=>(d k b).1) (hI N Y Y W2 _ hi d ((NU _ _).putObj _ _ (.inr f)) (λk b=>.inl b)) ((World.putObj_heap_other (by omega)).trans hd)⟩
   ·have ai:w.heap.size+1<W2.heap.size:=(d _ f).2
    have aa:(Instr.endLoop (w.heap.size+1)).run P W2=.ok (some c) (W2.putObj (w.heap.size+1) (.loop (rec' .exhausted (some c)))):=run_endLoop (P:=P) J (by simp[rec']);exact⟨some c,_,aa,wpIn_wide.2 (ag _ c i Y _ (JO _) j (λk b=>(d k b).1) aI (ap c i Y Y W2 _ hi d ((NU _ _).putObj _ _ (.inr f)) (λk b=>.inl b)) ((World.putObj_heap_other (by omega)).trans hd))⟩
def leads (v:Value)(k:Nat):Prop:=∃ x n c,v=.slice (some x) n c/\0<n/\x.block=k
def zh (P:Program)(gf:Nat)(lb:Array Value)(T:Nat->Value->(Nat->Prop)->World->Prop)(N:Nat)(R:Nat->Prop)(w:World):Prop:=
 ∀ (l:Nat) (J Jx:Nat->(Nat->Prop)->World->Prop) (W:World),aR R w W->w.heap.size<=l->l<W.heap.size ->
  (∀ i,ed W.heap.size (J i))->(∀ i,ed W.heap.size (Jx i))->(∀ Y A,¬J N Y A) ->
  (∀ i Y A v m,i<N->J i Y A->(∀ k,Y k->W.heap.size<=k/\k<A.heap.size)->aR R w A->T i v Y A ->
   YieldAt Fence.wide m P l #[v] A λe B=>aR (λk=>Y k\/R k) A B/\((e=.returned (.bool true)/\J (i+1) (λk=>Y k/\¬leads v k) B)\/(e=.returned (.bool false)/\Jx i (λk=>Y k/\¬leads v k) B))) ->
  J 0 (λ_=>False) W ->
  Calls P gf (#[.func (.yield l) #[] #[]]++lb) W λe B=>(∃ v,e=.returned v)/\∃ Y,(∀ k,Y k->W.heap.size<=k/\k<B.heap.size)/\(J N Y B\/∃ i,i<N/\Jx i Y B)
theorem Ie 
    (hg:a.eval g=.func (.func gf) #[] lb) (eg:∀ args w,(callFunc gf args).run P w=.ok (.enter gf args) w)
      (ah:Kp w0 w) (aq:∀ k,R k->k<w0.heap.size) (aA:zh P gf lb T N R w0) (aK:ps.size=1)
  (I:Nat->(Nat->Prop)->World->Prop) (Ix:Code->Nat->(Nat->Prop)->World->Prop)
  (hI:∀ i,ed w.heap.size (I i)) (au:∀ c i,ed w.heap.size (Ix c i))
  (aY:∀ Y A,¬I N Y A) (aF:∀ i v Y A,T i v Y A->∀ k,leads v k->Y k\/R k)
  (aU:∀ i v j Y A B l o,T i v j A->(∀ k,j k->Y k)->(∀ k,Y k->j k\/∃ o:Obj,A.heap[k]?=some o/\o.isCells=false)->w.heap.size<=l->A.heap[l]?=some (.loop o)->az (λk=>k=l) A B->T i v Y B)
  (h0:I 0 (λ_=>False) w) (Ax:Value->Act->World->Prop)
  (a1:∀ v O A l o o',Ax v O A->w.heap.size<=l->A.heap[l]?=some (.loop o)->Ax v O (A.putObj l o'))
  (af:∀ (l i:Nat) (Y j:Nat->Prop) (v:Value) (A:World) (K:Act->World->Prop),I i Y A->T i v j A->(∀ O A',Kp A A'->Ax v O A'->K O A') ->
   assign.wpIn (Fence.wide.inRound l) 4 P (Exit.then K (λ_ _ _=>False)) { tmps:=(ps.zip #[v]).foldl (λt (p,v)=>t.setIfInBounds p v) a.tmps,defers:=[] } A)
  (ap:∀ (l i:Nat) (Y:Nat->Prop) (v:Value) (O:Act) (A:World),i<N->I i Y A->(∀ k,Y k->w.heap.size<=k/\k<A.heap.size)->aR R w A->T i v Y A->Ax v O A ->
   body.wpIn (Fence.wide.inRound l) 4 P (λe _ B=>aR (λk=>Y k\/R k) A B/\((e=.normal/\I (i+1) (λk=>Y k/\¬leads v k) B)\/∃ c,lj e=some c/\Ix c i (λk=>Y k/\¬leads v k) B)) O A)
  (ao:∀ (D:Nat) (Y:Nat->Prop) (W:World),w.heap.size<=D->Y D->(∀ k,Y k->w.heap.size<=k)->I N Y W->W.heap[D]?=some (.deferred (some []))->Q .normal { a with defers:={ target:=.collected D,args:=#[] } :: a.defers } W)
  (aj:∀ (D:Nat) (c:Code) (i:Nat) (Y:Nat->Prop) (W:World),w.heap.size<=D->Y D->(∀ k,Y k->w.heap.size<=k)->i<N->Ix c i Y W->W.heap[D]?=some (.deferred (some []))->c.wp P Q { a with defers:={ target:=.collected D,args:=#[] } :: a.defers } W):
  (Code.rangeFunc g ps assign body).wp P Q a w:=by
 have hR:∀ k,R k->k<w.heap.size:=λk b=>JV (aq k b) ah.size
 refine(wpIn_wide (n:=6)).1 (wpIn_rangeFunc ?_);intro fn aN;rw[show Fence.wide.round=none from rfl];let rec':LoopState->Option Code->Loop:=λst pe=>{ state:=st,pending:=pe,fn,tmps:=a.tmps,params:=ps,assign,body,defers:=w.heap.size }
 obtain⟨J,ag⟩:∃ J,(w.alloc (.deferred (some []))).alloc (.loop (rec' .ready none))=J:=⟨_,rfl⟩;have a0:J.heap[w.heap.size]?=some (.deferred (some [])):=by
  rw[<-ag];exact(Below.heap_alloc _ _ _ (by simp)).trans (heap_alloc_new w _)
 have aX:J.heap[w.heap.size+1]?=some (.loop (rec' .ready none)):=by
  rw[<-ag];have:=heap_alloc_new (w.alloc (.deferred (some []))) (.loop (rec' .ready none));rwa [JY] at this
 have a2:J.heap.size=w.heap.size+2:=by rw[<-ag];simp
 have aD:Kp w J:=by rw[<-ag];exact((NQ w).alloc _).alloc _
 let V:Nat->(Nat->Prop)->World->(Nat->Prop)->Prop:=λi j A Y=>I i Y A/\(∀ k,j k->Y k)/\(∀ k,Y k->j k\/k=w.heap.size\/k=w.heap.size+1)/\(∀ k,Y k->w.heap.size<=k/\k<A.heap.size)/\Y w.heap.size/\Y (w.heap.size+1) /\
  A.heap[w.heap.size]?=some (.deferred (some []))/\A.heap[w.heap.size+1]?=some (.loop (rec' .ready none))
 let Vx:Nat->(Nat->Prop)->World->(Nat->Prop)->Code->Prop:=λi j A Y c=>Ix c i Y A/\(∀ k,j k->Y k)/\(∀ k,Y k->j k\/k=w.heap.size\/k=w.heap.size+1)/\(∀ k,Y k->w.heap.size<=k/\k<A.heap.size)/\Y w.heap.size/\Y (w.heap.size+1) /\
  A.heap[w.heap.size]?=some (.deferred (some []))/\A.heap[w.heap.size+1]?=some (.loop (rec' .done (some c)))
 have hV:∀ i,ed J.heap.size (λj A=>∃ Y,V i j A Y):=by
  rintro i j aw A B ⟨Y,hi,s,y,d,q,f,hd,L⟩ x r ab;have ak:¬j w.heap.size:=λe=>by have:=(x _ e).1;omega
  have G:¬j (w.heap.size+1):=λe=>by have:=(x _ e).1;omega
  have av:=(d _ q).2;have ar:=(d _ f).2;refine⟨λk=>aw k\/k=w.heap.size\/k=w.heap.size+1,hI i Y _ A B hi d (r.mono s) (λk b=>?_),λk b=>.inl b,λk b=>b,λk b=>?_,.inr (.inl rfl),.inr (.inr rfl),(r.block _ av ak).trans hd,(r.block _ ar G).trans L⟩
  ·rcases b with b|rfl|rfl
   ·exact(ab k b).imp (s k) id
   ·exact .inl q
   ·exact .inl f
  ·have:=r.size
   rcases b with b|rfl|rfl
   ·rcases ab k b with h|h
    ·have:=d k (s k h);omega
    ·have:=d _ q;omega
   ·omega
   ·omega
 have aS:∀ i,ed J.heap.size (λj A=>∃ Y c,Vx i j A Y c):=by
  rintro i j aw A B ⟨Y,c,hi,s,y,d,q,f,hd,L⟩ x r ab;have ak:¬j w.heap.size:=λe=>by have:=(x _ e).1;omega
  have G:¬j (w.heap.size+1):=λe=>by have:=(x _ e).1;omega
  have av:=(d _ q).2;have ar:=(d _ f).2;refine⟨λk=>aw k\/k=w.heap.size\/k=w.heap.size+1,c,au c i Y _ A B hi d (r.mono s) (λk b=>?_),λk b=>.inl b,λk b=>b,λk b=>?_,.inr (.inl rfl),.inr (.inr rfl),(r.block _ av ak).trans hd,(r.block _ ar G).trans L⟩
  ·rcases b with b|rfl|rfl
   ·exact(ab k b).imp (s k) id
   ·exact .inl q
   ·exact .inl f
  ·have:=r.size
   rcases b with b|rfl|rfl
   ·rcases ab k b with h|h
    ·have:=d k (s k h);omega
    ·have:=d _ q;omega
   ·omega
   ·omega
 refine⟨w.heap.size+1,[{ target:=.collected w.heap.size,args:=#[] }],J,{ target:=.fn (.func gf) lb,args:=#[.func (.yield (w.heap.size+1)) #[] #[]] },J,gf,
  #[.func (.yield (w.heap.size+1)) #[] #[]]++lb,J,?_,?_,?_,?_,λ_=>by omega,?_⟩
 ·rw[<-ag];exact run_enterLoop_outer _ _ _ _ _
 ·simp only[resolve,hg]
  simp[go_sem]
 ·intro f' a4
  trivial
 ·simp[invoke,go_sem,eg]
 ·refine callsIn_wide.2 ((aA (w.heap.size+1) (λi j A=>∃ Y,V i j A Y) (λi j A=>∃ Y c,Vx i j A Y c) J (aR.of_kp (ah.trans aD)) (by have:=ah.size;omega) (by omega) hV aS (λj A ⟨Y,h⟩=>aY Y A h.1) ?_
   ⟨λk=>k=w.heap.size\/k=w.heap.size+1,hI 0 _ _ w J h0 (λk b=>b.elim) (NY aD) (λk b=>.inr (by rcases b with rfl|rfl <;> omega)),λk b=>b.elim,λk b=>.inr b,λk b=>by rcases b with rfl|rfl <;> omega,.inl rfl,.inr rfl,a0,aX⟩).mono ?_)
  ·rintro i j A v m hi ⟨Y,aI,s,y,d,q,f,hd,L⟩ x aH hT
   have aW:aR R w A:=⟨by have:=(d _ f).2;omega,λk _ X=>(aH.block k (aq k X) X).trans (ah.block k (aq k X)).symm⟩;have al:w.heap.size+1<A.heap.size:=(d _ f).2;have hy:=run_yield (P:=P) (args:=#[v]) L (by show(#[v]:Array Value).size=ps.size;rw[aK];rfl);have aT:∀ B,az (λk=>k=w.heap.size+1) A B->T i v Y B:=λB hB=>aU i v j Y A B _ _ hT s (λk b=>(y k b).imp id (λh=>h.elim (λe=>⟨_,e▸hd,rfl⟩) (λe=>⟨_,e▸L,rfl⟩))) (by omega) L hB
   have aV:∀ k,R k->k≠w.heap.size+1:=λk b=>by have:=hR k b;omega
   refine YieldAt.anyDepth m (m:=4) ⟨fn,_,assign,body,hy,roundIn_of_wpIn aN (af _ i Y j v A _ aI hT ?_)⟩;intro O A1 aa aQ;have am:=(aa.block _ al).trans L;have aP:=(aa.block _ (d _ q).2).trans hd;refine⟨_,run_beginRound am rfl,?_⟩;have aC:w.heap.size+1<A1.heap.size:=(JK.1 am).1;obtain⟨F,z⟩:∃ F,A1.putObj (w.heap.size+1) (.loop { rec' .ready none with state:=.busy })=F:=⟨_,rfl⟩;rw[z];have ay:az (λk=>k=w.heap.size+1) A F:=by rw[<-z];exact(NY aa).putObj _ _ (.inr rfl)
   have r:az Y A F:=by rw[<-z];exact(NY aa).putObj _ _ (.inr f)
   have aL:F.heap[w.heap.size+1]?=some (.loop { rec' .ready none with state:=.busy }):=by rw[<-z];exact World.putObj_heap_same aC
   have aO:F.heap[w.heap.size]?=some (.deferred (some [])):=by rw[<-z];exact(World.putObj_heap_other (by omega)).trans aP
   have aE:Ax v O F:=by rw[<-z];exact a1 v O A1 _ _ _ aQ (by omega) am
   have C:∀ k,Y k->w.heap.size<=k/\k<F.heap.size:=λk b=>⟨(d k b).1,JV (d k b).2 r.size⟩
   have aZ:=hI i Y Y A F aI d r (λk b=>.inl b);have aG:aR R w F:=(aW.trans (aR.of_step r (λk b hy=>by have:=hR k b;have:=(d k hy).1;omega)));refine wpIn_mono (ap _ i Y v O F hi aZ C aG (aT F ay) aE) ?_;have aJ:∀ (u:Option Code) (B:World),aR (λk=>Y k\/R k) F B->∃ B',(Instr.endRound (w.heap.size+1) u).run P B=.ok (.bool u.isNone) B' /\
     B'.heap[w.heap.size+1]?=some (.loop (rec' (if u.isNone then .ready else .done) u))/\B'.heap[w.heap.size]?=some (.deferred (some []))/\(∀ Z:Nat->Prop,Z (w.heap.size+1)->az Z B B')/\(∀ k,Y k->w.heap.size<=k/\k<B.heap.size)/\aR (λk=>j k\/R k) A B':=λu B hh=>by
    have H:=(hh.block _ (C _ f).2 (.inl f)).trans aL;have ae:=(hh.block _ (C _ q).2 (.inl q)).trans aO;have aB:w.heap.size+1<B.heap.size:=(JK.1 H).1;have G:∀ k,j k\/R k->k≠w.heap.size+1:=λk b=>by
     rcases b with h|h
     ·have:=(x _ h).1;omega
     ·exact aV k h
    refine⟨_,run_endRound (P:=P) u H,World.putObj_heap_same aB,(World.putObj_heap_other (by omega)).trans ae,λZ hZ=>(NU Z B).putObj _ _ (.inr hZ),λk b=>⟨(d k b).1,JV (C k b).2 hh.size⟩,⟨?_,λk b X=>?_⟩⟩
    ·rw[mE];exact Kd r.size hh.size
    ·have e1:F.heap[k]?=A.heap[k]?:=by
      rw[<-z];exact(World.putObj_heap_other (G k X)).trans (aa.block k b)
     refine(World.putObj_heap_other (G k X)).trans ((hh.block k (JV b r.size) ?_).trans e1);exact X.elim (λh=>.inl (s k h)) .inr
   have ax:∀ (u:Option Code) (B B':World),az Y B B'->(∀ k,Y k->w.heap.size<=k/\k<B.heap.size)->(∀ k,Y k->w.heap.size<=k/\k<B'.heap.size):=λ_ B B' h hy k b=>⟨(hy k b).1,JV (hy k b).2 h.size⟩
   rintro e a3 B ⟨hh,hp⟩;have ai:¬leads v w.heap.size:=λh=>(aF i v j A hT _ h).elim (λh1=>by have:=(x _ h1).1;omega) λh1=>by have:=hR _ h1;omega
   have E:¬leads v (w.heap.size+1):=λh=>(aF i v j A hT _ h).elim (λh1=>by have:=(x _ h1).1;omega) λh1=>by have:=hR _ h1;omega
   have go:∀ c,lj e=some c->Ix c i (λk=>Y k/\¬leads v k) B->∃ v0 B',(Instr.endRound (w.heap.size+1) (some c)).run P B=.ok v0 B' /\
     (aR (λk=>j k\/R k) A B'/\((Ending.returned v0=.returned (.bool true)/\∃ Y,V (i+1) (λk=>j k/\¬leads v k) B' Y)\/(Ending.returned v0=.returned (.bool false)/\∃ Y c,Vx i (λk=>j k/\¬leads v k) B' Y c))):=λc M hx=>by
    obtain⟨B',X,H,ae,U,S,an⟩:=aJ (some c) B hh;exact⟨_,B',X,an,.inr ⟨rfl,λk=>Y k/\¬leads v k,c,au c i _ _ B B' hx (λk b=>S k b.1) (U _ ⟨f,E⟩) (λk b=>.inl b),λk b=>⟨s k b.1,b.2⟩,λk b=>(y k b.1).imp (λh=>⟨h,b.2⟩) id,λk b=>ax none B B' (U Y f) S k b.1,⟨q,ai⟩,⟨f,E⟩,ae,H⟩⟩
   cases e with
   | normal=>
    rcases hp with⟨_,hi3⟩|⟨c,M,_⟩
    ·obtain⟨B',X,H,ae,U,S,an⟩:=aJ none B hh
     exact⟨_,B',X,an,.inl ⟨rfl,λk=>Y k/\¬leads v k,hI (i+1) _ _ B B' hi3 (λk b=>S k b.1) (U _ ⟨f,E⟩) (λk b=>.inl b),λk b=>⟨s k b.1,b.2⟩,λk b=>(y k b.1).imp (λh=>⟨h,b.2⟩) id,λk b=>ax none B B' (U Y f) S k b.1,⟨q,ai⟩,⟨f,E⟩,ae,H⟩⟩
    ·cases M
   | ret=>
    rcases hp with⟨h,_⟩|⟨c,M,hx⟩
    ·cases h
    ·cases M;exact go _ rfl hx
   | exit id=>
    rcases hp with⟨h,_⟩|⟨c,M,hx⟩
    ·cases h
    ·cases M;exact go _ rfl hx
   | goto t=>
    rcases hp with⟨h,_⟩|⟨c,M,hx⟩
    ·cases h
    ·cases M;exact go _ rfl hx
   | panic ch=>
    rcases hp with⟨h,_⟩|⟨c,M,_⟩
    ·cases h
    ·cases M
   | outgrown=>
    rcases hp with⟨h,_⟩|⟨c,M,_⟩
    ·cases h
    ·cases M
  ·rintro e W2 ⟨⟨v,rfl⟩,j,x,(⟨Y,hi,s,y,d,q,f,hd,L⟩|⟨i,aM,Y,c,hi,s,y,d,q,f,hd,L⟩)⟩
   ·have al:w.heap.size+1<W2.heap.size:=(d _ f).2
    have ad:(Instr.endLoop (w.heap.size+1)).run P W2=.ok none (W2.putObj (w.heap.size+1) (.loop (rec' .exhausted none))):=run_endLoop (P:=P) L (by simp[rec']);refine⟨none,_,ad,ao _ Y _ (JO _) q (λk b=>(d k b).1) (hI N Y Y W2 _ hi d ((NU _ _).putObj _ _ (.inr f)) (λk b=>.inl b)) ((World.putObj_heap_other (by omega)).trans hd)⟩
   ·have al:w.heap.size+1<W2.heap.size:=(d _ f).2
    have ad:(Instr.endLoop (w.heap.size+1)).run P W2=.ok (some c) (W2.putObj (w.heap.size+1) (.loop (rec' .exhausted (some c)))):=run_endLoop (P:=P) L (by simp[rec']);exact⟨some c,_,ad,wpIn_wide.2 (aj _ c i Y _ (JO _) q (λk b=>(d k b).1) aM (au c i Y Y W2 _ hi d ((NU _ _).putObj _ _ (.inr f)) (λk b=>.inl b)) ((World.putObj_heap_other (by omega)).trans hd))⟩

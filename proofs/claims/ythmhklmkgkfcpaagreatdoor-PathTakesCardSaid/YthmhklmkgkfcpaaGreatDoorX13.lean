import Derived.Test.YthmhklmkgkfcpaaGreatDoorX12
set_option linter.all false
set_option maxHeartbeats 8000000
set_option maxRecDepth 100000
namespace Go.Proofs.YthmhklmkgkfcpaaGreatDoor
open Go.Proofs.Tryz Go.RowKit
variable {B b c g i k n o:Nat}{P:Program}{Y Z a f:Nat->Prop}{e es t:TypeId}{l:List UInt8}{v:Value}{vs:List Value}{w w':World}{α:Type}
def cA (w:World)(g:Nat):Prop:=∃ cs t fr,w.heap[g]?=some (.cells cs t fr)
theorem cA.lt (h:cA w g):g<w.heap.size:=by
 obtain⟨_,_,_,h⟩:=h;exact(JK.1 h).1
theorem cA.of_cell {a:Addr}(h:w.cell? a=some v):cA w a.block:=by
 unfold World.cell? at h;split at h
 ·next c t fr e=>exact⟨c,t,fr,e⟩
 ·cases h
theorem Ar {es:Array MapEntry}(h:w.heap[g]?=some (.map es c)):¬cA w g:=by
 rintro⟨_,_,_,e⟩;rw[h] at e;cases e
theorem Rd.solid (h:Rd w v l):∀ x n c,v=.slice (some x) n c->0<n->cA w x.block:=λx n c e f=>by
 obtain⟨m,k,a,j,i,g,d⟩:=h;rw[e] at a;simp only[JR] at a;obtain⟨rfl,rfl,rfl⟩:=a;have b:=cA.of_cell (d x rfl 0 f);rwa [fx] at b
theorem RI.solid {l:List Int}(h:RI w v l):∀ x n c,v=.slice (some x) n c->0<n->cA w x.block:=λx n c e f=>by
 obtain⟨m,k,a,j,i,g,d⟩:=h;rw[e] at a;simp only[JR] at a;obtain⟨rfl,rfl,rfl⟩:=a;have b:=cA.of_cell (d x rfl 0 f);rwa [fx] at b
theorem br.solid {b:Nat->Prop}(h:br Z v)(f:∀ x n c,v=.slice (some x) n c->0<n->cA w x.block)(d:∀ g,b g->Z g\/¬cA w g):br b v:=λx n c e a j=>
 (d _ j).elim (h x n c e a) λi=>i (f x n c e a)
structure Sh (α:Type) where
 mk ::
 k:Nat
 pos:0<k
 R:(Nat->Prop)->World->List Value->α->Prop
 len:∀ {Z w vs x},R Z w vs x->vs.length=k
 one:∀ {Z w vs x},R Z w vs x->∀ z∈vs,z.oneCell'=true
 solid:∀ {Z Z' w vs x},R Z w vs x->(∀ g,Z' g->Z g\/¬cA w g)->R Z' w vs x
 step:∀ {Z w w' vs x},R Z w vs x->az Z w w'->R Z w' vs x
theorem Sh.mono (S:Sh α){x:α}(h:S.R Z w vs x)(b:∀ g,a g->Z g):S.R a w vs x:=S.solid h λg c=>.inl (b g c)
theorem Sh.fresh (S:Sh α){x:α}(h:S.R Z w vs x):S.R (λg=>Z g\/w.heap.size<=g) w vs x:=
 S.solid h λg a=>a.imp id λa b=>by have:=b.lt;omega
def noB:Nat->Prop:=λ_=>False
theorem Kp.step (h:Kp w w'):az noB w w':=⟨h.os,h.tape,h.output,h.size,λk a _=>h.block k a⟩
theorem Sh.kp (S:Sh α){x:α}(h:S.R noB w vs x)(k:Kp w w'):S.R noB w' vs x:=S.step h k.step
def SE {α:Type}(S:Sh α)(Z:Nat->Prop)(w:World)(v:Value)(t:List α):Prop:=
 ∃ a c,v=.slice a t.length c/\t.length<=c/\c<=maxLen/\(a=none->c=0) /\
  (0<t.length->∃ b off,a=some ⟨b,off,none⟩/\b<w.heap.size/\∀ i x,t[i]?=some x->∃ vs,w.rangeAt b (off+i*S.k) vs/\S.R Z w vs x)
def SZ {α:Type}(S:Sh α)(Z:Nat->Prop)(w:World)(v:Value)(t:List α):Prop:=SE S Z w v t/\br Z v
def aJ {α:Type}(S:Sh α)(w:World)(v:Value)(t:List α):Prop:=SE S noB w v t
section
variable {α : Type} {S : Sh α}
theorem br.none (v:Value):br noB v:=λ_ _ _ _ _ h=>h
theorem aJ.sz {t:List α}(h:aJ S w v t):SZ S noB w v t:=⟨h,br.none v⟩
theorem SE.shape {Z:Nat->Prop}{w:World}{v:Value}{t:List α}(h:SE S Z w v t):∃ a c,v=.slice a t.length c/\t.length<=c/\c<=maxLen:=by
 obtain⟨a,c,e,d,b,_⟩:=h;exact⟨a,c,e,d,b⟩
def Ob:=@SE.shape
theorem SE.sl {Z:Nat->Prop}{w:World}{v:Value}{t:List α}(h:SE S Z w v t):∃ a n c,v=.slice a n c:=by
 obtain⟨a,c,e,_⟩:=h;exact⟨_,_,_,e⟩
def Oc:=@SE.sl
theorem SE.nil (Z:Nat->Prop)(w:World):SE S Z w (.slice none 0 0) []:=⟨none,0,rfl,JO _,JW _,λ_=>rfl,λh=>absurd h (by simp)⟩
theorem aJ.nil (w:World):aJ S w (.slice none 0 0) []:=SE.nil _ w
theorem SE.at {a:Option Addr}{t:List α}(h:SE S Z w (.slice a n c) t)(f:0<n):
  ∃ b d,a=some ⟨b,d,none⟩/\b<w.heap.size/\∀ i x,t[i]?=some x->∃ vs,w.rangeAt b (d+i*S.k) vs/\S.R Z w vs x:=by
 obtain⟨p,o,e,m,l,j,g⟩:=h;simp only[JR] at e;obtain⟨rfl,rfl,rfl⟩:=e;exact g f
theorem SE.mono {t:List α}(h:SE S Z w v t)(l:∀ g,f g->Z g):SE S f w v t:=by
 obtain⟨a,c,e,u,s,r,q⟩:=h;refine⟨a,c,e,u,s,r,λy=>?_⟩;obtain⟨b,d,p,o,n⟩:=q y;refine⟨b,d,p,o,λi x m=>?_⟩;obtain⟨vs,k,j⟩:=n i x m;exact⟨vs,k,S.mono j l⟩
theorem SE.solidly {t:List α}(h:SE S Z w v t)(l:∀ g,f g->Z g\/¬cA w g):SE S f w v t:=by
 obtain⟨a,c,e,u,s,r,q⟩:=h;refine⟨a,c,e,u,s,r,λy=>?_⟩;obtain⟨b,d,p,o,n⟩:=q y;refine⟨b,d,p,o,λi x m=>?_⟩;obtain⟨vs,k,j⟩:=n i x m;exact⟨vs,k,S.solid j l⟩
theorem SZ.mono {b:Nat->Prop}{t:List α}(h:SZ S Z w v t)(a:∀ g,b g->Z g):SZ S b w v t:=⟨h.1.mono a,h.2.mono a⟩
theorem SE.inside {t:List α}(h:SE S Z w v t):∀ x n c,v=.slice (some x) n c->0<n->x.block<w.heap.size:=λx n c e j=>by
 obtain⟨p,o,a,m,l,k,i⟩:=h;rw[e] at a;simp only[JR] at a;obtain⟨rfl,rfl,rfl⟩:=a;obtain⟨b,f,d,g,_⟩:=i j;simp only[Ky] at d;subst d;exact g
theorem SE.sol {t:List α}(h:SE S Z w v t):∀ x n c,v=.slice (some x) n c->0<n->cA w x.block:=λx n c e f=>by
 obtain⟨y,u,a,s,r,q,l⟩:=h;rw[e] at a;simp only[JR] at a;obtain⟨rfl,rfl,rfl⟩:=a;obtain⟨b,j,d,p,k⟩:=l f;simp only[Ky] at d;subst d;obtain⟨vs,i,g⟩:=k 0 _ (JG f);have o:=S.len g;have m:=S.pos;have:=cA.of_cell (i 0 _ (JG (by omega)));exact this
theorem SZ.solidly {b:Nat->Prop}{t:List α}(h:SZ S Z w v t)(a:∀ g,b g->Z g\/¬cA w g):SZ S b w v t:=⟨h.1.solidly a,h.2.solid h.1.sol a⟩
theorem SZ.step {t:List α}(h:SZ S Z w v t)(f:az Z w w'):SZ S Z w' v t:=by
 obtain⟨⟨a,c,e,B,A,y,u⟩,k⟩:=h;refine⟨⟨a,c,e,B,A,y,λm=>?_⟩,k⟩;obtain⟨b,d,l,s,r⟩:=u m;refine⟨b,d,l,JV s f.size,λi x p=>?_⟩;obtain⟨vs,o,n⟩:=r i x p;subst l;have g:¬Z b:=k _ _ _ e m;exact⟨vs,λj z q=>f.cell (o j z q) g,S.step n f⟩
theorem aJ.kp {w w':World}{v:Value}{t:List α}(h:aJ S w v t)(k:Kp w w'):aJ S w' v t:=(SZ.step (Z:=noB) ⟨h,br.none v⟩ k.step).1
def Od:=@aJ.kp
theorem SE.pre {a:Option Addr}{t:List α}(h:SE S Z w (.slice a n c) t)(k:Nat)(s:k<=n):SE S Z w (.slice a k c) (t.take k):=by
 obtain⟨y,v,e,u,q,p,o⟩:=h;simp only[JR] at e;obtain⟨rfl,rfl,rfl⟩:=e;have g:(t.take k).length=k:=by rw[Ki];omega
 refine⟨a,c,by rw[g],by omega,q,p,λr=>?_⟩;rw[g] at r;obtain⟨b,f,m,l,j⟩:=o (by omega);refine⟨b,f,m,l,λi x d=>j i x ?_⟩;rw[List.getElem?_take] at d;split at d
 ·exact d
 ·cases d
def GZ (S:Sh α)(e:TypeId)(Z:Nat->Prop)(w:World)(B:Nat)(v:Value)(t:List α):Prop:=
 ∃ us:List Value,w.ownsRow B e S.k v t.length us/\(∀ z∈us,z.oneCell'=true) /\
  ∀ i x,t[i]?=some x->∃ vs,(∀ f,f<S.k->us[i*S.k+f]?=vs[f]?)/\S.R (λg=>some g=v.ownBlock\/Z g) w vs x
section
variable {Z : Nat -> Prop}
theorem GZ.lt {t:List α}(h:GZ S e Z w B v t):∀ k,v.ownBlock=some k->B<=k/\k<w.heap.size:=by
 obtain⟨us,b,_⟩:=h;exact λk a=>KU b k a
theorem GZ.kp {t:List α}(h:GZ S e Z w B v t)(k:Kp w w'):GZ S e Z w' B v t:=by
 obtain⟨us,g,f,d⟩:=h;refine⟨us,oO g k,f,λi x a=>?_⟩;obtain⟨vs,l,j⟩:=d i x a;exact⟨vs,l,S.step j ⟨k.os,k.tape,k.output,k.size,λb c _=>k.block b c⟩⟩
theorem GZ.mono {C:Nat}{t:List α}(h:GZ S e Z w B v t)(k:C<=B):GZ S e Z w C v t:=by
 obtain⟨us,a,i,f⟩:=h;refine⟨us,⟨a.1,?_⟩,i,f⟩;rcases a.2 with d|⟨g,c,b,j,a,rest⟩
 ·exact .inl d
 ·exact .inr ⟨g,c,b,j,by omega,rest⟩
theorem GZ.solidly {t:List α}(h:GZ S e Z w B v t)(b:∀ g,a g->some g=v.ownBlock\/Z g\/¬cA w g):GZ S e a w B v t:=by
 obtain⟨us,k,j,f⟩:=h;refine⟨us,k,j,λi x c=>?_⟩;obtain⟨vs,m,l⟩:=f i x c;exact⟨vs,m,S.solid l λg d=>d.elim (λh=>.inl (.inl h)) λh=>(b g h).elim (λh=>.inl (.inl h)) λh=>h.imp .inr id⟩
theorem GZ.step {t:List α}(h:GZ S e Z w B v t)(f:az Y w w')(p:∀ g,Y g->Z g\/¬cA w g)(m:∀ g,v.ownBlock=some g->¬Y g):GZ S e Z w' B v t:=by
 have s:GZ S e (λg=>Z g\/Y g) w B v t:=h.solidly λg b=>b.elim (λh=>.inr (.inl h)) λh=>(p g h).elim (λh=>.inr (.inl h)) λh=>.inr (.inr h)
 obtain⟨us,j,r,q⟩:=s;refine⟨us,⟨j.1,?_⟩,r,λi x l=>?_⟩
 ·rcases j.2 with n|⟨g,d,c,k,o,a,rest⟩
  ·exact .inl n
  ·exact .inr ⟨g,d,c,k,o,(f.block g (JK.1 a).1 (m g (by rw[k];rfl))).trans a,rest⟩
 ·obtain⟨vs,y,u⟩:=q i x l
  exact⟨vs,y,S.mono (S.step u (f.mono λg b=>.inr (.inr b))) λg b=>b.imp id .inl⟩
theorem GZ.form {t:List α}(h:GZ S e Z w B v t)(A:0<t.length):
  ∃ g c,v=.slice (some ⟨g,0,none⟩) t.length c/\B<=g/\g<w.heap.size/\t.length<=c/\c<=maxLen /\
   ∀ i x,t[i]?=some x->∃ vs,w.rangeAt g (i*S.k) vs/\S.R (λb=>some b=v.ownBlock\/Z b) w vs x:=by
 obtain⟨us,m,y,s⟩:=h;have d:=λk q=>KU m k q
 rcases id m.2 with⟨_,hn⟩|⟨g,cap,cur,rfl,hb,hg,hn,hm,hs,ht⟩
 ·omega
 ·refine⟨g,cap,rfl,hb,(d g rfl).2,hn,hm,λi x n=>?_⟩
  obtain⟨vs,u,p⟩:=s i x n;have l:i<t.length:=(Ks.1 n).1;refine⟨vs,λj z o=>?_,p⟩;have f:j<S.k:=by rw[<-S.len p];exact(Ks.1 o).1
  have a:i*S.k+j<t.length*S.k:=by
   have r:(i+1)*S.k<=t.length*S.k:=Lp _ l;rw[ME,MF] at r;omega
  rw[m.cellAt (i*S.k+j) a,u j f];exact o
theorem GZ.gl {t:List α}(h:GZ S e Z w B v t):aJ S w v t:=by
 by_cases o:0<t.length
 ·obtain⟨g,c,rfl,l,d,a,n,m⟩:=h.form o
  refine⟨_,c,rfl,a,n,λh=>(by cases h),λ_=>⟨g,0,rfl,d,λi x k=>?_⟩⟩;rw[Lf];obtain⟨vs,j,f⟩:=m i x k;exact⟨vs,j,S.mono f λ_ h=>h.elim⟩
 ·have b:t=[]:=Kg (by omega)
  subst b;obtain⟨us,a,_⟩:=h;rcases a.2 with⟨rfl,_⟩|⟨g,cap,cur,rfl,l,d,hn,hm,hs,b⟩
  ·exact aJ.nil w
  ·exact⟨_,cap,rfl,hn,hm,λh=>(by cases h),λh=>absurd h (by simp)⟩
theorem GZ.nil (e:TypeId)(w:World)(B:Nat):GZ S e Z w B (.slice none 0 0) []:=⟨[],Ns _ _ _ _,λz a=>by simp at a,λi x b=>by simp at b⟩
theorem GZ.empty (e:TypeId)(w:World):GZ S e Z (w.alloc (.cells #[] e)) w.heap.size (.slice (some ⟨w.heap.size,0,none⟩) 0 0) []:=
 ⟨[],LJ w #[] 0 (JO _) (by unfold maxLen;omega) (by simp),λz a=>by simp at a,λi x b=>by simp at b⟩
theorem GZ.len {t:List α}(h:GZ S e Z w B (.slice (some ⟨g,0,none⟩) n c) t):t.length=n:=by
 obtain⟨us,a,_⟩:=h;rcases a.2 with⟨e,_⟩|⟨g',cap,cur,e,_⟩
 ·simp at e
 ·simp only[JR] at e;exact e.2.1.symm
theorem GZ.there {t:List α}(h:GZ S e Z w B (.slice (some ⟨g,0,none⟩) n c) t)(i:Nat)(d:i<t.length):w.there g (i*S.k) S.k:=by
 have b:=h.len;obtain⟨us,a,o,m⟩:=h;subst b;intro j l;refine⟨?_,a.frozenAt _⟩;have f:(i+1)*S.k<=t.length*S.k:=Lp _ d;rw[ME,MF] at f;rw[a.cellAt (i*S.k+j) (by omega),JG (by rw[a.1];omega)];rfl
theorem GZ.stored {t:List α}(h:GZ S e Z w B (.slice (some ⟨g,0,none⟩) n c) t)(i:Nat)(C:i<t.length)(m:α)(vs:List Value)(a:S.R (λb=>b=g\/Z b) w vs m):
  GZ S e Z (w.setCells g (i*S.k) vs) B (.slice (some ⟨g,0,none⟩) n c) (t.set i m)/\w.grownBy (w.setCells g (i*S.k) vs) (some g):=by
 have r:=h.len;obtain⟨us,A,I,H⟩:=h;subst r;have q:=A.1;have u:=S.len a;have E:(i+1)*S.k<=t.length*S.k:=Lp _ C;rw[ME,MF] at E;obtain⟨F,G,d,N,o⟩:=oQ vs (i*S.k) w us A (by rw[q,u];exact E);have y:az (λb=>some b=(Value.slice (some ⟨g,0,none⟩) t.length c).ownBlock\/Z b) w (w.setCells g (i*S.k) vs):=⟨d.os,d.tape,d.output,d.size,λk j r=>d.block k j (λe=>r (.inl e))⟩;refine⟨⟨F,by rw[Km];exact G,λz J=>?_,λk x l=>?_⟩,d⟩
 ·obtain⟨k,j⟩:=List.getElem?_of_mem J
  rw[o] at j;split at j
  ·exact S.one a z (Lx j)
  ·exact I z (Lx j)
 ·rw[MX] at l
  by_cases v:i=k
  ·subst v
   rw[if_pos rfl,if_pos C] at l;cases l;refine⟨vs,λf D=>?_,S.step (S.mono a λb K=>K.imp (λe=>by cases e;rfl) id) y⟩;rw[o,u,if_pos ⟨by omega,by omega⟩,Mo]
  ·rw[if_neg v] at l
   obtain⟨p,M,L⟩:=H k x l;refine⟨p,λf D=>?_,S.step L y⟩;rw[o,u,if_neg,M f D];rintro⟨P,O⟩;rcases Nat.lt_or_gt_of_ne v with s|s
   ·have:=Lp S.k (show i+1<=k from s)
    rw[ME,MF] at this;omega
   ·have:=Lp S.k (show k+1<=i from s)
    rw[ME,MF] at this;omega
end
structure SK (P:Program)(t e:TypeId)(k:Nat):Prop where
 mk ::
 ht:P.underlying t=some (.slice e)
 hi:∃ i z,P.info? e=some i/\i.zero=some z/\i.size=k/\i.bytes<=128/\z.cells.size=k
theorem SK.mk' {z:Value}(g:P.underlying t=some (.slice e))(h:(P.info? e).map (λi=>(i.zero,i.size,i.bytes))=some (some z,k,b))(l:b<=128)(f:z.cells.size=k):SK P t e k:=by
 obtain⟨i,j,c,a,d⟩:=info_parts h;exact⟨g,i,z,j,c,a,by omega,f⟩
theorem SE.flat {a:Nat}{t:List α}(h:∀ i x,t[i]?=some x->∃ vs,w.rangeAt b (a+i*S.k) vs/\S.R Z w vs x):
  ∃ us:List Value,us.length=t.length*S.k/\(∀ z∈us,z.oneCell'=true)/\(∀ j z,us[j]?=some z->w.cell? ⟨b,a+j,none⟩=some z) /\
   ∀ i x,t[i]?=some x->∃ vs,(∀ f,f<S.k->us[i*S.k+f]?=vs[f]?)/\S.R Z w vs x:=by
 have key:∀ n,n<=t.length->∃ us:List Value,us.length=n*S.k/\(∀ z∈us,z.oneCell'=true)/\(∀ j z,us[j]?=some z->w.cell? ⟨b,a+j,none⟩=some z) /\
   ∀ i x,i<n->t[i]?=some x->∃ vs,(∀ f,f<S.k->us[i*S.k+f]?=vs[f]?)/\S.R Z w vs x:=by
  intro n;induction n with
  | zero=>exact λ_=>⟨[],by simp,λz e=>by simp at e,λj z l=>by simp at l,λi x v=>by omega⟩
  | succ n ih=>
   intro E;obtain⟨us,d,r,q,p⟩:=ih (by omega);obtain⟨vs,y,s⟩:=h n t[n] (JG (by omega));have B:=S.len s;refine⟨us++vs,by rw[JQ,d,B,ME,MF],λz e=>?_,λj z l=>?_,λi x v g=>?_⟩
   ·rcases Le.1 e with e|e
    ·exact r z e
    ·exact S.one s z e
   ·by_cases m:j<us.length
    ·rw[Kt m] at l
     exact q j z l
    ·rw[Kn (by omega)] at l
     have:=y _ z l;rw[d] at this m;rwa [show a+n*S.k+(j - n*S.k)=a+j by omega] at this
   ·by_cases c:i<n
    ·obtain⟨o,D,C⟩:=p i x c g
     refine⟨o,λf u=>?_,C⟩;have A:(i+1)*S.k<=n*S.k:=Lp _ c;rw[ME,MF] at A;rw[Kt (by rw[d];omega)];exact D f u
    ·have:i=n:=by omega
     subst this;rw[JG (by omega)] at g;cases g;refine⟨vs,λf u=>?_,s⟩;rw[Kn (by rw[d];omega),d,Mo]
 obtain⟨us,d,r,q,p⟩:=key t.length (JO _);exact⟨us,d,r,q,λi x g=>p i x (Ks.1 g).1 g⟩
theorem Sh.moved {c:Value}{x:α}(h:S.R (λg=>some g=v.ownBlock\/Z g) w vs x)(b:w.grownBy w' v.ownBlock)(a:c.ownBlock=v.ownBlock\/c.ownBlock=some w.heap.size):
  S.R (λg=>some g=c.ownBlock\/Z g) w' vs x:=by
 have i:=S.fresh h;have f:S.R (λg=>(some g=v.ownBlock\/Z g)\/w.heap.size<=g) w' vs x:=S.step i ⟨b.os,b.tape,b.output,b.size,λk a d=>b.block k a (λe=>d (.inl (.inl e)))⟩;refine S.mono f λg e=>?_
 rcases e with e|e
 ·rcases a with a|a
  ·exact .inl (.inl (by rw[<-a];exact e))
  ·rw[a] at e
   simp only[Ky] at e;exact .inr (by omega)
 ·exact .inl (.inr e)
theorem fL (K:SK P t e S.k){H:Array Oper}{rest:List Oper}{o:Oper}{a:Act}{Q:Exit->Act->World->Prop}(D:o.guard=none)(s x:Operand)
  (ho:o.op=.call { callee:=.builtin .append,args:=#[s,x],argTypes:=#[t,t] })
  (B:Nat) (v:Value) (d:List α) (Y:a.eval s=v) (J:GZ S e Z w B v d) (u:Value) (r:List α) (X:a.eval x=u) (hu:SE S (λg=>some g=v.ownBlock\/Z g) w u r) (M:d.length+r.length<=1000000) (n:B<=w.heap.size)
  (h:∀ p w',GZ S e Z w' B p (d++r)->w.grownBy w' v.ownBlock->(p.ownBlock=v.ownBlock\/p.ownBlock=some w.heap.size)->wpList P H Q rest (a.put o.dst p) w'):wpList P H Q (o :: rest) a w:=by
 obtain⟨i,z,hi,hz,l,ae,I⟩:=K.hi;obtain⟨us,R,h2,h3⟩:=J;obtain⟨ad,c,rfl,hc,hm,L,E⟩:=hu;have O:(d.length+r.length)*i.bytes<=140737488355328:=by
  have:=LS M ae;omega
 by_cases h0:0<r.length
 ·obtain⟨b,V,rfl,_,hn⟩:=E h0
  obtain⟨q,n1,n2,n3,n4⟩:=SE.flat hn;refine wpList_append_own_at w D s x t ho B e i z S.k i.bytes K.ht hi hz l rfl I S.pos v d.length us Y R ⟨b,V,none⟩ r.length c q X n1 (λj y m=>?_) n2 (by unfold maxLen;omega) O n
   (λp w' W G _ F=>h p w' ⟨us++q,by rw[JQ];exact W,λy A=>?_,λj y m=>?_⟩ G F)
  ·rw[Addr.add_mid]
   exact n3 j y m
  ·rcases Le.1 A with A|A
   ·exact h2 y A
   ·exact n2 y A
  ·have C:=R.1
   by_cases N:j<d.length
   ·rw[Kt N] at m
    obtain⟨vs,U,T⟩:=h3 j y m;refine⟨vs,λf hf=>?_,Sh.moved T G F⟩;have h5:(j+1)*S.k<=d.length*S.k:=Lp _ N;rw[ME,MF] at h5;rw[Kt (by rw[C];omega)];exact U f hf
   ·rw[Kn (by omega)] at m
    obtain⟨vs,U,T⟩:=n4 (j - d.length) y m;refine⟨vs,λf hf=>?_,Sh.moved T G F⟩;have h5:d.length*S.k<=j*S.k:=Lp _ (by omega);rw[Kn (by rw[C];omega),C,<-U f hf,Nat.sub_mul];congr 1
    omega
 ·have aa:r=[]:=Kg (by omega)
  subst aa;cases ad with
  | none=>
   have ab:=L rfl;subst ab;refine wpList_append_own_none D s x t ho B e i S.k K.ht hi v d.length us Y R X ?_;exact h v w ⟨us,by simpa using R,h2,by simpa using h3⟩ ⟨rfl,rfl,rfl,JO _,λ_ _ _=>rfl⟩ (.inl rfl)
  | some ad=>
   refine wpList_append_own_at w D s x t ho B e i z S.k i.bytes K.ht hi hz l rfl I S.pos v d.length us Y R ad 0 c [] X (by simp) (λj y m=>by simp at m) (λy A=>by simp at A) (by unfold maxLen;omega) (by simpa using O) n
    (λp w' W G _ F=>h p w' ⟨us,by simpa using W,h2,λj y m=>?_⟩ G F)
   rw[Lr] at m;obtain⟨vs,U,T⟩:=h3 j y m;exact⟨vs,U,Sh.moved T G F⟩
end
structure Sd where
 node:Int
 seed:List UInt8
structure Se where
 half:List UInt8
 b:List UInt8
structure St where
 pub:List UInt8
 fors:List Se
structure Pa where
 pub:List UInt8
 step:List St
def RZ (Z:Nat->Prop)(w:World)(v:Value)(l:List UInt8):Prop:=Rd w v l/\br Z v
theorem RZ.mono (h:RZ Z w v l)(b:∀ g,a g->Z g):RZ a w v l:=⟨h.1,h.2.mono b⟩
theorem RZ.solid (h:RZ Z w v l)(b:∀ g,a g->Z g\/¬cA w g):RZ a w v l:=⟨h.1,h.2.solid h.1.solid b⟩
theorem RZ.step (h:RZ Z w v l)(a:az Z w w'):RZ Z w' v l:=⟨h.1.stepF a h.2,h.2⟩
theorem RZ.of (h:Rd w v l):RZ noB w v l:=⟨h,br.none v⟩
theorem RZ.one (h:RZ Z w v l):v.oneCell'=true:=by
 obtain⟨a,c,rfl,_⟩:=h.1.shape;rfl
theorem SZ.one {S:Sh α}{l:List α}(h:SZ S Z w v l):v.oneCell'=true:=by
 obtain⟨a,c,rfl,_⟩:=h.1.shape;rfl
theorem mJ {a b:Value}(e:a.oneCell'=true)(d:b.oneCell'=true):∀ z∈[a,b],z.oneCell'=true:=by
 intro z c;simp only[Lu,Mw,or_false] at c;rcases c with rfl|rfl
 ·exact e
 ·exact d
def bQ:Sh Sd where
 k:=2
 pos:=by decide
 R:=λZ w vs x=>∃ q,vs=[.int .i64 x.node,q]/\RZ Z w q x.seed
 len:=fun⟨_,e,_⟩=>by rw[e];rfl
 one:=fun⟨_,e,h⟩=>by rw[e];exact mJ rfl h.one
 solid:=fun⟨q,e,h⟩ hz=>⟨q,e,h.solid hz⟩
 step:=fun⟨q,e,h⟩ hs=>⟨q,e,h.step hs⟩
def dS:Sh Se where
 k:=2
 pos:=by decide
 R:=λZ w vs x=>∃ p q,vs=[p,q]/\RZ Z w p x.half/\RZ Z w q x.b
 len:=fun⟨_,_,e,_⟩=>by rw[e];rfl
 one:=fun⟨_,_,e,h1,h2⟩=>by rw[e];exact mJ h1.one h2.one
 solid:=fun⟨p,q,e,h1,h2⟩ hz=>⟨p,q,e,h1.solid hz,h2.solid hz⟩
 step:=fun⟨p,q,e,h1,h2⟩ hs=>⟨p,q,e,h1.step hs,h2.step hs⟩
def dc:Sh St where
 k:=2
 pos:=by decide
 R:=λZ w vs x=>∃ p q,vs=[p,q]/\RZ Z w p x.pub/\SZ dS Z w q x.fors
 len:=fun⟨_,_,e,_⟩=>by rw[e];rfl
 one:=fun⟨_,_,e,h1,h2⟩=>by rw[e];exact mJ h1.one h2.one
 solid:=fun⟨p,q,e,h1,h2⟩ hz=>⟨p,q,e,h1.solid hz,h2.solidly hz⟩
 step:=fun⟨p,q,e,h1,h2⟩ hs=>⟨p,q,e,h1.step hs,h2.step hs⟩
theorem uj {x:Sd}(a:w.rangeAt b o vs)(h:bQ.R Z w vs x):∃ q,w.cell? ⟨b,o,none⟩=some (.int .i64 x.node)/\w.cell? ⟨b,o+1,none⟩=some q/\RZ Z w q x.seed:=by
 obtain⟨q,rfl,h⟩:=h;exact⟨q,a 0 _ rfl,a 1 _ rfl,h⟩
theorem qU {x:Se}(a:w.rangeAt b o vs)(h:dS.R Z w vs x):∃ p q,w.cell? ⟨b,o,none⟩=some p/\w.cell? ⟨b,o+1,none⟩=some q/\RZ Z w p x.half/\RZ Z w q x.b:=by
 obtain⟨p,q,rfl,h⟩:=h;exact⟨p,q,a 0 _ rfl,a 1 _ rfl,h⟩
theorem qV {x:St}(a:w.rangeAt b o vs)(h:dc.R Z w vs x):∃ p q,w.cell? ⟨b,o,none⟩=some p/\w.cell? ⟨b,o+1,none⟩=some q/\RZ Z w p x.pub/\SZ dS Z w q x.fors:=by
 obtain⟨p,q,rfl,h⟩:=h;exact⟨p,q,a 0 _ rfl,a 1 _ rfl,h⟩
def SL (w:World)(v:Value)(l:List Sd):Prop:=aJ bQ w v l
def EL (w:World)(v:Value)(l:List Se):Prop:=aJ dS w v l
def dl (w:World)(v:Value)(l:List St):Prop:=aJ dc w v l
structure PIn (w:World)(x y:Value)(p:Pa):Prop where
 mk ::
 pub:Rd w x p.pub
 step:aJ dc w y p.step
theorem PIn.kp {x y:Value}{p:Pa}(h:PIn w x y p)(k:Kp w w'):PIn w' x y p:=⟨h.pub.kp k,Od h.step k⟩
def aG (l:List Sd)(i:Nat):Sd:=l.getD i ⟨0,[]⟩
def aH (l:List Se)(i:Nat):Se:=l.getD i ⟨[],[]⟩
def am (l:List St)(i:Nat):St:=l.getD i ⟨[],[]⟩
theorem SL.node {l:List Sd}(h:SL w v l)(f:i<l.length):
  ∃ b d c q,v=.slice (some ⟨b,d,none⟩) l.length c/\b<w.heap.size/\w.cell? ⟨b,d+i*2,none⟩=some (.int .i64 (aG l i).node)/\w.cell? ⟨b,d+i*2+1,none⟩=some q/\Rd w q (aG l i).seed:=by
 obtain⟨a,c,rfl,s,r⟩:=Ob h;obtain⟨b,d,rfl,m,k⟩:=SE.at h (by omega);obtain⟨vs,j,g⟩:=k i l[i] (JG f);obtain⟨q,p,o,n⟩:=uj j g;have e:aG l i=l[i]:=by unfold aG;rw[JF,JG f];rfl
 rw[e];exact⟨b,d,c,q,rfl,m,p,o,n.1⟩
theorem EL.node {l:List Se}(h:EL w v l)(f:i<l.length):
  ∃ b d c p q,v=.slice (some ⟨b,d,none⟩) l.length c/\b<w.heap.size/\w.cell? ⟨b,d+i*2,none⟩=some p/\w.cell? ⟨b,d+i*2+1,none⟩=some q/\Rd w p (aH l i).half/\Rd w q (aH l i).b:=by
 obtain⟨a,c,rfl,u,t⟩:=Ob h;obtain⟨b,d,rfl,m,k⟩:=SE.at h (by omega);obtain⟨vs,j,g⟩:=k i l[i] (JG f);obtain⟨p,q,s,r,o,n⟩:=qU j g;have e:aH l i=l[i]:=by unfold aH;rw[JF,JG f];rfl
 rw[e];exact⟨b,d,c,p,q,rfl,m,s,r,o.1,n.1⟩
theorem dl.node {l:List St}(h:dl w v l)(f:i<l.length):
  ∃ b d c p q,v=.slice (some ⟨b,d,none⟩) l.length c/\b<w.heap.size/\w.cell? ⟨b,d+i*2,none⟩=some p/\w.cell? ⟨b,d+i*2+1,none⟩=some q/\Rd w p (am l i).pub/\EL w q (am l i).fors:=by
 obtain⟨a,c,rfl,u,t⟩:=Ob h;obtain⟨b,d,rfl,m,k⟩:=SE.at h (by omega);obtain⟨vs,j,g⟩:=k i l[i] (JG f);obtain⟨p,q,s,r,o,n⟩:=qV j g;have e:am l i=l[i]:=by unfold am;rw[JF,JG f];rfl
 rw[e];exact⟨b,d,c,p,q,rfl,m,s,r,o.1,n.1⟩
theorem SE.lit1 {S:Sh α}{x:α}{cs:Array Value}(e:TypeId)(h:S.R noB w vs x)(c:cs.toList=vs):aJ S (w.alloc (.cells cs e)) (.slice (some ⟨w.heap.size,0,none⟩) 1 1) [x]:=by
 refine⟨_,1,rfl,JO _,by unfold maxLen;omega,λh=>(by cases h),λ_=>⟨w.heap.size,0,rfl,by simp,λi y a=>?_⟩⟩;have f:i<1:=(Ks.1 a).1;obtain rfl:i=0:=by omega
 cases a;refine⟨vs,λj z b=>?_,S.kp h ((NQ w).alloc _)⟩;have d:=(Oa w e cs).cell j;subst c;rw[show 0+0*S.k+j=j by omega,d,<-Nv];exact b
def IZ (Z:Nat->Prop)(w:World)(v:Value)(l:List Int):Prop:=RI w v l/\br Z v
theorem IZ.solid {l:List Int}(h:IZ Z w v l)(b:∀ g,a g->Z g\/¬cA w g):IZ a w v l:=⟨h.1,h.2.solid h.1.solid b⟩
theorem IZ.step {l:List Int}(h:IZ Z w v l)(a:az Z w w'):IZ Z w' v l:=⟨h.1.stepF a h.2,h.2⟩
theorem IZ.one {l:List Int}(h:IZ Z w v l):v.oneCell'=true:=by
 obtain⟨a,c,e⟩:=h.1.sl;obtain⟨n,rfl⟩:=e;rfl
theorem sI {a:Value}(c:a.oneCell'=true):∀ z∈[a],z.oneCell'=true:=by
 intro z b;simp only[Lu,Mw,or_false] at b;subst b;exact c
def gV:Sh (List Int) where
 k:=1
 pos:=by decide
 R:=λZ w vs x=>∃ q,vs=[q]/\IZ Z w q x
 len:=fun⟨_,e,_⟩=>by rw[e];rfl
 one:=fun⟨_,e,h⟩=>by rw[e];exact sI h.one
 solid:=fun⟨q,e,h⟩ hz=>⟨q,e,h.solid hz⟩
 step:=fun⟨q,e,h⟩ hs=>⟨q,e,h.step hs⟩
def gz:Sh (List UInt8) where
 k:=1
 pos:=by decide
 R:=λZ w vs x=>∃ q,vs=[q]/\RZ Z w q x
 len:=fun⟨_,e,_⟩=>by rw[e];rfl
 one:=fun⟨_,e,h⟩=>by rw[e];exact sI h.one
 solid:=fun⟨q,e,h⟩ hz=>⟨q,e,h.solid hz⟩
 step:=fun⟨q,e,h⟩ hs=>⟨q,e,h.step hs⟩
structure Stp where
 node:Int
 cover:List Int
def ja:Sh Stp where
 k:=2
 pos:=by decide
 R:=λZ w vs x=>∃ q,vs=[.int .i64 x.node,q]/\IZ Z w q x.cover
 len:=fun⟨_,e,_⟩=>by rw[e];rfl
 one:=fun⟨_,e,h⟩=>by rw[e];exact mJ rfl h.one
 solid:=fun⟨q,e,h⟩ hz=>⟨q,e,h.solid hz⟩
 step:=fun⟨q,e,h⟩ hs=>⟨q,e,h.step hs⟩
theorem aJ.get {S:Sh α}{l:List α}(h:aJ S w v l){x:α}(e:l[i]?=some x):
  ∃ b d c vs,v=.slice (some ⟨b,d,none⟩) l.length c/\b<w.heap.size/\w.rangeAt b (d+i*S.k) vs/\S.R noB w vs x:=by
 have n:=(Ks.1 e).1;obtain⟨a,c,rfl,p,o⟩:=Ob h;obtain⟨b,d,rfl,m,j⟩:=SE.at h (by omega);obtain⟨vs,g,f⟩:=j i x e;exact⟨b,d,c,vs,rfl,m,g,f⟩
def en (l:List (List Int))(i:Nat):List Int:=l.getD i []
def kE (l:List (List UInt8))(i:Nat):List UInt8:=l.getD i []
def dA (l:List Stp)(i:Nat):Stp:=l.getD i ⟨0,[]⟩
theorem aJ.ns {l:List (List Int)}(h:aJ gV w v l)(d:i<l.length):
  ∃ b a c q,v=.slice (some ⟨b,a,none⟩) l.length c/\b<w.heap.size/\w.cell? ⟨b,a+i,none⟩=some q/\RI w q (en l i):=by
 obtain⟨b,a,c,vs,e,j,g,q,rfl,f⟩:=aJ.get h (JG d);have k:en l i=l[i]:=by unfold en;rw[JF,JG d];rfl
 rw[k];have:=g 0 _ rfl;exact⟨b,a,c,q,e,j,by simpa [gV] using this,f.1⟩
theorem aJ.bs {l:List (List UInt8)}(h:aJ gz w v l)(d:i<l.length):
  ∃ b a c q,v=.slice (some ⟨b,a,none⟩) l.length c/\b<w.heap.size/\w.cell? ⟨b,a+i,none⟩=some q/\Rd w q (kE l i):=by
 obtain⟨b,a,c,vs,e,j,g,q,rfl,f⟩:=aJ.get h (JG d);have k:kE l i=l[i]:=by unfold kE;rw[JF,JG d];rfl
 rw[k];have:=g 0 _ rfl;exact⟨b,a,c,q,e,j,by simpa [gz] using this,f.1⟩
theorem aJ.sp {l:List Stp}(h:aJ ja w v l)(f:i<l.length):
  ∃ b a c q,v=.slice (some ⟨b,a,none⟩) l.length c/\b<w.heap.size/\w.cell? ⟨b,a+i*2,none⟩=some (.int .i64 (dA l i).node)/\w.cell? ⟨b,a+i*2+1,none⟩=some q/\RI w q (dA l i).cover:=by
 obtain⟨b,a,c,vs,e,j,d,q,rfl,g⟩:=aJ.get h (JG f);have k:dA l i=l[i]:=by unfold dA;rw[JF,JG f];rfl
 rw[k];exact⟨b,a,c,q,e,j,d 0 _ rfl,d 1 _ rfl,g.1⟩
structure Cs (w w':World):Prop where
 mk ::
 os:w'.os=w.os
 tape:w'.tape=w.tape
 output:w'.output=w.output
 size:w.heap.size<=w'.heap.size
 block:∀ k,cA w k->w'.heap[k]?=w.heap[k]?
theorem Cs.solid (h:Cs w w')(d:cA w k):cA w' k:=by
 have:=h.block k d;obtain⟨a,b,c,e⟩:=d;exact⟨a,b,c,by rw[this,e]⟩
theorem Cs.trans {a b c:World}(h:Cs a b)(k:Cs b c):Cs a c:=
 ⟨k.os.trans h.os,k.tape.trans h.tape,k.output.trans h.output,Kd h.size k.size,λi d=>(k.block i (h.solid d)).trans (h.block i d)⟩
theorem Kp.cs (h:Kp w w'):Cs w w':=⟨h.os,h.tape,h.output,h.size,λk a=>h.block k a.lt⟩
theorem Cs.grown {m:Nat}(h:w.grownBy w' (some m))(b:¬cA w m):Cs w w':=
 ⟨h.os,h.tape,h.output,h.size,λk a=>h.block k a.lt λe=>by cases e;exact b a⟩
theorem Cs.step (h:Cs w w'):az (λg=>¬cA w g) w w':=⟨h.os,h.tape,h.output,h.size,λk _ a=>h.block k (Ln.1 a)⟩
theorem az.cs (h:az Y w w')(b:∀ g,Y g->¬cA w g):Cs w w':=⟨h.os,h.tape,h.output,h.size,λk a=>h.block k a.lt λe=>b k e a⟩
theorem Rd.cs (h:Rd w v l)(k:Cs w w'):Rd w' v l:=h.stepF k.step λx n c e b a=>a (h.solid x n c e b)
theorem RI.cs {l:List Int}(h:RI w v l)(k:Cs w w'):RI w' v l:=h.stepF k.step λx n c e b a=>a (h.solid x n c e b)
theorem aJ.cs {S:Sh α}{l:List α}(h:aJ S w v l)(k:Cs w w'):aJ S w' v l:=
 ((SZ.step (Z:=λg=>¬cA w g) (SZ.solidly (aJ.sz h) λg a=>.inr a) k.step).1).mono λ_ h=>h.elim
theorem Cs.cell (h:Cs w w'){a:Addr}(b:w.cell? a=some v):w'.cell? a=some v:=by
 have:=h.block a.block (cA.of_cell b);rw[Mc (w:=w) (a:=a) this];exact b
theorem Bx.cs {T:TypeId}{cs:Array Value}(h:Bx w b T cs)(k:Cs w w'):Bx w' b T cs:=(k.block b ⟨_,_,_,h⟩).trans h
section
open Go.ChangeShapes Go.Deep Go.WideShapes
section
variable {H : Type} {enc : TypeId × Value -> H} {P : Program} {w : World} {base : Nat} {spare : Nat -> Bool} {held : Bool}
theorem aJ.of_cells (S:Sh α)(d:α){u:Nat}{cs:List Value}{x:DataW H × List MemPlace}(N:P.underlying t=some (.slice e))(W:P.cellsOf e=S.k)
  (g:∀ n' c K,DataW.trod enc P w base spare held n' e c=some K->c.length=S.k->∃ y,S.R noB w c y)
  (h:DataW.trod enc P w base spare held u t cs=some x):∃ v l,cs=[v]/\aJ S w v l:=by
 haveI:Inhabited α:=⟨d⟩
 rcases open_slice N h with⟨hcs,_⟩|⟨a,len,cap,m,n,D,Pl,hcs,_,hl,hm,hmm,_,hel⟩
 ·exact⟨_,[],hcs,aJ.nil w⟩
 ·have Q:len<=m:=by rw[hmm];split <;> omega
  rw[W] at hel;have key:∀ i,i<len->∃ y:α,∃ vs:List Value,vs.length=S.k/\(∀ j z,vs[j]?=some z->w.cell? ((a.add (i*S.k)).add j)=some z)/\S.R noB w vs y:=by
   intro i U;obtain⟨c,G,F⟩:=hel i (by omega);obtain⟨_,q,I⟩:=World.cells?_some G;obtain⟨y,A⟩:=g _ _ _ F q;refine⟨y,c,q,λj z B=>?_,A⟩;have T:=(Ks.1 B).1;rw[I j (by omega)];exact B
  obtain⟨l,f,p⟩:=ue len _ key d;refine⟨_,l,by rw[hcs,f],some a,cap,rfl,by omega,hm,λh=>(by cases h),λJ=>?_⟩;rw[f] at J;obtain⟨b,C,o⟩:=a;obtain⟨vs,M,E,_⟩:=p 0 J;have Y:=S.pos;have r:=E 0 vs[0] (JG (by omega));have O:o=none:=by simpa [Addr.add] using MJ r
  subst O;have s:=Kl w _ r;simp only[Addr.add_mid] at s;refine⟨b,C,rfl,s,λi y A=>?_⟩;have V:i<len:=by rw[<-f];exact(Ks.1 A).1
  obtain⟨vs,M,E,L⟩:=p i V;have X:l.getD i d=y:=by rw[JF,A];rfl
  refine⟨vs,λj z B=>?_,by rw[<-X];exact L⟩;have:=E j z B;simpa only [Addr.add_mid] using this
theorem qG {c b:Field}(s:P.underlying e=some (.struct #[c,b]))(a:oneCellFields P #[c,b]=true){cs:List Value}{x:DataW H × List MemPlace}
  (h:DataW.trod enc P w base spare held n e cs=some x) (r:cs.length=2):
  ∃ f d n' i g,cs=[f,d]/\DataW.trod enc P w base spare held n' c.type [f]=some i/\DataW.trod enc P w base spare held n' b.type [d]=some g:=by
 obtain⟨xs,n',_,_,_,j,l⟩:=Nt s h
 obtain⟨o,q⟩:=hone_of a 0 c rfl
 obtain⟨m,p⟩:=hone_of a 1 b rfl
 match cs,r with
 | [f,d],_=>
  have k:xs.length=2:=j
  match xs,k with
  | [i,g],_=>
   have u:DataW.trod enc P w base spare held n' c.type [f]=some i:=by simpa [o,q] using l 0 c rfl
   have t:DataW.trod enc P w base spare held n' b.type [d]=some g:=by simpa [m,p] using l 1 b rfl
   exact⟨f,d,n',i,g,rfl,u,t⟩
theorem SL.of_cells {i:TypeId}{g f:Field}{cs:List Value}{x:DataW H × List MemPlace}(n:P.underlying t=some (.slice e))(p:P.underlying e=some (.struct #[g,f]))
  (a:oneCellFields P #[g,f]=true) (r:P.cellsOf e=2) (u:P.underlying g.type=some (.int .i64)) (s:P.underlying f.type=some (.slice i)) (q:P.underlying i=some (.int .u8)) (d:P.cellsOf i=1)
  (h:DataW.trod enc P w base spare held b t cs=some x):∃ v l,cs=[v]/\SL w v l:=by
 refine aJ.of_cells bQ ⟨0,[]⟩ n r (λn' B F c o=>?_) h;obtain⟨I,C,G,E,D,rfl,z,y⟩:=qG p a c o;obtain⟨k,A,_,_⟩:=Nu u z;cases A;obtain⟨m,j⟩:=Rd.of_one s q d y;exact⟨⟨k,m⟩,C,rfl,RZ.of j⟩
theorem EL.of_cells {d:TypeId}{i g:Field}{cs:List Value}{x:DataW H × List MemPlace}(p:P.underlying t=some (.slice e))(r:P.underlying e=some (.struct #[i,g]))
  (a:oneCellFields P #[i,g]=true) (s:P.cellsOf e=2) (y:P.underlying i.type=some (.slice d)) (u:P.underlying g.type=some (.slice d)) (j:P.underlying d=some (.int .u8)) (b:P.cellsOf d=1)
  (h:DataW.trod enc P w base spare held c t cs=some x):∃ v l,cs=[v]/\EL w v l:=by
 refine aJ.of_cells dS ⟨[],[]⟩ p s (λn' B G f q=>?_) h;obtain⟨D,C,I,F,E,rfl,A,z⟩:=qG r a f q;obtain⟨o,m⟩:=Rd.of_one y j b A;obtain⟨n,k⟩:=Rd.of_one u j b z;exact⟨⟨o,n⟩,D,C,rfl,RZ.of m,RZ.of k⟩
theorem dl.of_cells {f:TypeId}{o n m k:Field}{d:Nat}{cs:List Value}{x:DataW H × List MemPlace}(C:P.underlying t=some (.slice e))(E:P.underlying e=some (.struct #[o,n]))
  (b:oneCellFields P #[o,n]=true) (F:P.cellsOf e=2) (K:P.underlying o.type=some (.slice f)) (J:P.underlying n.type=some (.slice es))
  (i:P.underlying es=some (.struct #[m,k])) (a:oneCellFields P #[m,k]=true) (j:P.cellsOf es=2) (I:P.underlying m.type=some (.slice f)) (G:P.underlying k.type=some (.slice f))
  (p:P.underlying f=some (.int .u8)) (c:P.cellsOf f=1)
  (h:DataW.trod enc P w base spare held d t cs=some x):∃ v l,cs=[v]/\dl w v l:=by
 refine aJ.of_cells dc ⟨[],[]⟩ C F (λn' M R g D=>?_) h;obtain⟨N,q,S,Q,O,rfl,u,s⟩:=qG E b g D;obtain⟨B,z⟩:=Rd.of_one K p c u;obtain⟨r,A,L,y⟩:=EL.of_cells J i a j I G p c s;obtain rfl:q=r:=by simpa using L
 exact⟨⟨B,A⟩,N,q,rfl,RZ.of z,aJ.sz y⟩
theorem PIn.of_cells {j c:TypeId}{k p1 t s r q:Field}{cs:List Value}{x:DataW H × List MemPlace}(y:P.underlying j=some (.struct #[k,p1]))(a:oneCellFields P #[k,p1]=true)(n:P.cellsOf j=2)
  (l:P.underlying k.type=some (.slice c)) (J:P.underlying p1.type=some (.slice e)) (K:P.underlying e=some (.struct #[t,s]))
  (d:oneCellFields P #[t,s]=true) (L:P.cellsOf e=2) (Q:P.underlying t.type=some (.slice c)) (O:P.underlying s.type=some (.slice es))
  (m:P.underlying es=some (.struct #[r,q])) (b:oneCellFields P #[r,q]=true) (o:P.cellsOf es=2) (N:P.underlying r.type=some (.slice c)) (M:P.underlying q.type=some (.slice c))
  (z:P.underlying c=some (.int .u8)) (g:P.cellsOf c=1)
  (h:DataW.trod enc P w base spare held i j cs=some x):∃ u v p,cs=[u,v]/\PIn w u v p:=by
 obtain⟨_,_,_,_,f,_⟩:=Nt y h;obtain⟨S,A,V,U,T,rfl,D,C⟩:=qG y a h (by rw[f,n]);obtain⟨I,F⟩:=Rd.of_one l z g D;obtain⟨B,G,R,E⟩:=dl.of_cells (e:=e) (es:=es) J K d L Q O m b o N M z g C;obtain rfl:A=B:=by simpa using R
 exact⟨S,A,⟨I,G⟩,rfl,⟨F,E⟩⟩
end

import Derived.Test.YthmhklmkgkfcpaaGreatDoorW15
import Derived.Maps.OwnSet
import Derived.Sort.KeysCollected
import Derived.Deep.Fields
set_option linter.all false
set_option maxHeartbeats 8000000
set_option maxRecDepth 100000
namespace Go.Proofs.YthmhklmkgkfcpaaGreatDoor
open Go.Proofs.Tryz Go.RowKit
variable {B b c g i k n o:Nat}{D:DataW Value}{P:Program}{Y Z a f:Nat->Prop}{e t:TypeId}{l:List UInt8}{v z:Value}{vs:List Value}{w w':World}{α:Type}
def bX (w:World)(g:Nat):Prop:=∃ cs t fr,w.heap[g]?=some (.cells cs t fr)
theorem bX.lt (h:bX w g):g<w.heap.size:=by
 obtain⟨_,_,_,h⟩:=h;exact(IX.1 h).1
theorem bX.of_cell {a:Addr}(h:w.cell? a=some v):bX w a.block:=by
 unfold World.cell? at h;split at h
 ·next c t fr e=>exact⟨c,t,fr,e⟩
 ·cases h
theorem zX {a:Array MapEntry}(h:w.heap[g]?=some (.map a c)):¬bX w g:=by
 rintro⟨_,_,_,e⟩;rw[h] at e;cases e
theorem Rd.solid (h:Rd w v l):∀ x n c,v=.slice (some x) n c->0<n->bX w x.block:=λx n c e f=>by
 obtain⟨m,k,a,j,i,g,d⟩:=h;rw[e] at a;simp only[Ji] at a;obtain⟨rfl,rfl,rfl⟩:=a;have b:=bX.of_cell (d x rfl 0 f);rwa [fo] at b
theorem RI.solid {l:List Int}(h:RI w v l):∀ x n c,v=.slice (some x) n c->0<n->bX w x.block:=λx n c e f=>by
 obtain⟨m,k,a,j,i,g,d⟩:=h;rw[e] at a;simp only[Ji] at a;obtain⟨rfl,rfl,rfl⟩:=a;have b:=bX.of_cell (d x rfl 0 f);rwa [fo] at b
theorem bq.solid {b:Nat->Prop}(h:bq Z v)(f:∀ x n c,v=.slice (some x) n c->0<n->bX w x.block)(d:∀ g,b g->Z g\/¬bX w g):bq b v:=λx n c e a j=>
 (d _ j).elim (h x n c e a) λi=>i (f x n c e a)
structure Sh (α:Type) where
 mk ::
 k:Nat
 pos:0<k
 R:(Nat->Prop)->World->List Value->α->Prop
 len:∀ {Z w vs x},R Z w vs x->vs.length=k
 one:∀ {Z w vs x},R Z w vs x->∀ z∈vs,z.oneCell'=true
 solid:∀ {Z Z' w vs x},R Z w vs x->(∀ g,Z' g->Z g\/¬bX w g)->R Z' w vs x
 step:∀ {Z w w' vs x},R Z w vs x->am Z w w'->R Z w' vs x
theorem Sh.mono (S:Sh α){x:α}(h:S.R Z w vs x)(b:∀ g,a g->Z g):S.R a w vs x:=S.solid h λg c=>.inl (b g c)
theorem Sh.fresh (S:Sh α){x:α}(h:S.R Z w vs x):S.R (λg=>Z g\/w.heap.size<=g) w vs x:=
 S.solid h λg a=>a.imp id λa b=>by have:=b.lt;omega
def noB:Nat->Prop:=λ_=>False
theorem Kp.step (h:Kp w w'):am noB w w':=⟨h.os,h.tape,h.output,h.size,λk a _=>h.block k a⟩
theorem Sh.kp (S:Sh α){x:α}(h:S.R noB w vs x)(k:Kp w w'):S.R noB w' vs x:=S.step h k.step
def SE {α:Type}(S:Sh α)(Z:Nat->Prop)(w:World)(v:Value)(t:List α):Prop:=
 ∃ a c,v=.slice a t.length c/\t.length<=c/\c<=maxLen/\(a=none->c=0) /\
  (0<t.length->∃ b off,a=some ⟨b,off,none⟩/\b<w.heap.size/\∀ i x,t[i]?=some x->∃ vs,w.rangeAt b (off+i*S.k) vs/\S.R Z w vs x)
def SZ {α:Type}(S:Sh α)(Z:Nat->Prop)(w:World)(v:Value)(t:List α):Prop:=SE S Z w v t/\bq Z v
def aL {α:Type}(S:Sh α)(w:World)(v:Value)(t:List α):Prop:=SE S noB w v t
section
variable {α : Type} {S : Sh α}
theorem bq.none (v:Value):bq noB v:=λ_ _ _ _ _ h=>h
theorem aL.sz {t:List α}(h:aL S w v t):SZ S noB w v t:=⟨h,bq.none v⟩
theorem SE.shape {t:List α}(h:SE S Z w v t):∃ a c,v=.slice a t.length c/\t.length<=c/\c<=maxLen:=by
 obtain⟨a,c,e,d,b,_⟩:=h;exact⟨a,c,e,d,b⟩
theorem SE.sl {t:List α}(h:SE S Z w v t):∃ a n c,v=.slice a n c:=by
 obtain⟨a,c,e,_⟩:=h;exact⟨_,_,_,e⟩
theorem SE.nil (Z:Nat->Prop)(w:World):SE S Z w (.slice none 0 0) []:=⟨none,0,rfl,Ja _,Jl _,λ_=>rfl,λh=>absurd h (by simp)⟩
theorem aL.nil (w:World):aL S w (.slice none 0 0) []:=SE.nil _ w
theorem SE.at {a:Option Addr}{t:List α}(h:SE S Z w (.slice a n c) t)(f:0<n):
  ∃ b d,a=some ⟨b,d,none⟩/\b<w.heap.size/\∀ i x,t[i]?=some x->∃ vs,w.rangeAt b (d+i*S.k) vs/\S.R Z w vs x:=by
 obtain⟨p,o,e,m,l,j,g⟩:=h;simp only[Ji] at e;obtain⟨rfl,rfl,rfl⟩:=e;exact g f
theorem SE.mono {t:List α}(h:SE S Z w v t)(l:∀ g,f g->Z g):SE S f w v t:=by
 obtain⟨a,c,e,u,s,r,q⟩:=h;refine⟨a,c,e,u,s,r,λy=>?_⟩;obtain⟨b,d,p,o,n⟩:=q y;refine⟨b,d,p,o,λi x m=>?_⟩;obtain⟨vs,k,j⟩:=n i x m;exact⟨vs,k,S.mono j l⟩
theorem SE.solidly {t:List α}(h:SE S Z w v t)(l:∀ g,f g->Z g\/¬bX w g):SE S f w v t:=by
 obtain⟨a,c,e,u,s,r,q⟩:=h;refine⟨a,c,e,u,s,r,λy=>?_⟩;obtain⟨b,d,p,o,n⟩:=q y;refine⟨b,d,p,o,λi x m=>?_⟩;obtain⟨vs,k,j⟩:=n i x m;exact⟨vs,k,S.solid j l⟩
theorem SZ.mono {b:Nat->Prop}{t:List α}(h:SZ S Z w v t)(a:∀ g,b g->Z g):SZ S b w v t:=⟨h.1.mono a,h.2.mono a⟩
theorem SE.inside {t:List α}(h:SE S Z w v t):∀ x n c,v=.slice (some x) n c->0<n->x.block<w.heap.size:=λx n c e j=>by
 obtain⟨p,o,a,m,l,k,i⟩:=h;rw[e] at a;simp only[Ji] at a;obtain⟨rfl,rfl,rfl⟩:=a;obtain⟨b,f,d,g,_⟩:=i j;simp only[JL] at d;subst d;exact g
theorem SE.sol {t:List α}(h:SE S Z w v t):∀ x n c,v=.slice (some x) n c->0<n->bX w x.block:=λx n c e f=>by
 obtain⟨y,u,a,s,r,q,l⟩:=h;rw[e] at a;simp only[Ji] at a;obtain⟨rfl,rfl,rfl⟩:=a;obtain⟨b,j,d,p,k⟩:=l f;simp only[JL] at d;subst d;obtain⟨vs,i,g⟩:=k 0 _ (IV f);have o:=S.len g;have m:=S.pos;have:=bX.of_cell (i 0 _ (IV (by omega)));exact this
theorem SZ.solidly {b:Nat->Prop}{t:List α}(h:SZ S Z w v t)(a:∀ g,b g->Z g\/¬bX w g):SZ S b w v t:=⟨h.1.solidly a,h.2.solid h.1.sol a⟩
theorem SZ.step {t:List α}(h:SZ S Z w v t)(f:am Z w w'):SZ S Z w' v t:=by
 obtain⟨⟨a,c,e,B,A,y,u⟩,k⟩:=h;refine⟨⟨a,c,e,B,A,y,λm=>?_⟩,k⟩;obtain⟨b,d,l,s,r⟩:=u m;refine⟨b,d,l,Jh s f.size,λi x p=>?_⟩;obtain⟨vs,o,n⟩:=r i x p;subst l;have g:¬Z b:=k _ _ _ e m;exact⟨vs,λj z q=>f.cell (o j z q) g,S.step n f⟩
theorem aL.kp {t:List α}(h:aL S w v t)(k:Kp w w'):aL S w' v t:=(SZ.step (Z:=noB) ⟨h,bq.none v⟩ k.step).1
theorem SE.pre {a:Option Addr}{t:List α}(h:SE S Z w (.slice a n c) t)(k:Nat)(s:k<=n):SE S Z w (.slice a k c) (t.take k):=by
 obtain⟨y,v,e,u,q,p,o⟩:=h;simp only[Ji] at e;obtain⟨rfl,rfl,rfl⟩:=e;have g:(t.take k).length=k:=by rw[Jv];omega
 refine⟨a,c,by rw[g],by omega,q,p,λr=>?_⟩;rw[g] at r;obtain⟨b,f,m,l,j⟩:=o (by omega);refine⟨b,f,m,l,λi x d=>j i x ?_⟩;rw[List.getElem?_take] at d;split at d
 ·exact d
 ·cases d
def GZ (S:Sh α)(e:TypeId)(Z:Nat->Prop)(w:World)(B:Nat)(v:Value)(t:List α):Prop:=
 ∃ us:List Value,w.ownsRow B e S.k v t.length us/\(∀ z∈us,z.oneCell'=true) /\
  ∀ i x,t[i]?=some x->∃ vs,(∀ f,f<S.k->us[i*S.k+f]?=vs[f]?)/\S.R (λg=>some g=v.ownBlock\/Z g) w vs x
section
variable {Z : Nat -> Prop}
theorem GZ.lt {t:List α}(h:GZ S e Z w B v t):∀ k,v.ownBlock=some k->B<=k/\k<w.heap.size:=by
 obtain⟨us,b,_⟩:=h;exact λk a=>JP b k a
theorem GZ.kp {t:List α}(h:GZ S e Z w B v t)(k:Kp w w'):GZ S e Z w' B v t:=by
 obtain⟨us,g,f,d⟩:=h;refine⟨us,oF g k,f,λi x a=>?_⟩;obtain⟨vs,l,j⟩:=d i x a;exact⟨vs,l,S.step j ⟨k.os,k.tape,k.output,k.size,λb c _=>k.block b c⟩⟩
theorem GZ.mono {C:Nat}{t:List α}(h:GZ S e Z w B v t)(k:C<=B):GZ S e Z w C v t:=by
 obtain⟨us,a,i,f⟩:=h;refine⟨us,⟨a.1,?_⟩,i,f⟩;rcases a.2 with d|⟨g,c,b,j,a,rest⟩
 ·exact .inl d
 ·exact .inr ⟨g,c,b,j,by omega,rest⟩
theorem GZ.solidly {t:List α}(h:GZ S e Z w B v t)(b:∀ g,a g->some g=v.ownBlock\/Z g\/¬bX w g):GZ S e a w B v t:=by
 obtain⟨us,k,j,f⟩:=h;refine⟨us,k,j,λi x c=>?_⟩;obtain⟨vs,m,l⟩:=f i x c;exact⟨vs,m,S.solid l λg d=>d.elim (λh=>.inl (.inl h)) λh=>(b g h).elim (λh=>.inl (.inl h)) λh=>h.imp .inr id⟩
theorem GZ.step {t:List α}(h:GZ S e Z w B v t)(f:am Y w w')(p:∀ g,Y g->Z g\/¬bX w g)(m:∀ g,v.ownBlock=some g->¬Y g):GZ S e Z w' B v t:=by
 have s:GZ S e (λg=>Z g\/Y g) w B v t:=h.solidly λg b=>b.elim (λh=>.inr (.inl h)) λh=>(p g h).elim (λh=>.inr (.inl h)) λh=>.inr (.inr h)
 obtain⟨us,j,r,q⟩:=s;refine⟨us,⟨j.1,?_⟩,r,λi x l=>?_⟩
 ·rcases j.2 with n|⟨g,d,c,k,o,a,rest⟩
  ·exact .inl n
  ·exact .inr ⟨g,d,c,k,o,(f.block g (IX.1 a).1 (m g (by rw[k];rfl))).trans a,rest⟩
 ·obtain⟨vs,y,u⟩:=q i x l
  exact⟨vs,y,S.mono (S.step u (f.mono λg b=>.inr (.inr b))) λg b=>b.imp id .inl⟩
theorem GZ.form {t:List α}(h:GZ S e Z w B v t)(A:0<t.length):
  ∃ g c,v=.slice (some ⟨g,0,none⟩) t.length c/\B<=g/\g<w.heap.size/\t.length<=c/\c<=maxLen /\
   ∀ i x,t[i]?=some x->∃ vs,w.rangeAt g (i*S.k) vs/\S.R (λb=>some b=v.ownBlock\/Z b) w vs x:=by
 obtain⟨us,m,y,s⟩:=h;have d:=λk q=>JP m k q
 rcases id m.2 with⟨_,hn⟩|⟨g,cap,cur,rfl,hb,hg,hn,hm,hs,ht⟩
 ·omega
 ·refine⟨g,cap,rfl,hb,(d g rfl).2,hn,hm,λi x n=>?_⟩
  obtain⟨vs,u,p⟩:=s i x n;have l:i<t.length:=(JH.1 n).1;refine⟨vs,λj z o=>?_,p⟩;have f:j<S.k:=by rw[<-S.len p];exact(JH.1 o).1
  have a:i*S.k+j<t.length*S.k:=by
   have r:(i+1)*S.k<=t.length*S.k:=Kf _ l;rw[LK,LL] at r;omega
  rw[m.cellAt (i*S.k+j) a,u j f];exact o
theorem GZ.gl {t:List α}(h:GZ S e Z w B v t):aL S w v t:=by
 by_cases o:0<t.length
 ·obtain⟨g,c,rfl,l,d,a,n,m⟩:=h.form o
  refine⟨_,c,rfl,a,n,λh=>(by cases h),λ_=>⟨g,0,rfl,d,λi x k=>?_⟩⟩;rw[JS];obtain⟨vs,j,f⟩:=m i x k;exact⟨vs,j,S.mono f λ_ h=>h.elim⟩
 ·have b:t=[]:=Ju (by omega)
  subst b;obtain⟨us,a,_⟩:=h;rcases a.2 with⟨rfl,_⟩|⟨g,cap,cur,rfl,l,d,hn,hm,hs,b⟩
  ·exact aL.nil w
  ·exact⟨_,cap,rfl,hn,hm,λh=>(by cases h),λh=>absurd h (by simp)⟩
theorem GZ.nil (e:TypeId)(w:World)(B:Nat):GZ S e Z w B (.slice none 0 0) []:=⟨[],MA _ _ _ _,λz a=>by simp at a,λi x b=>by simp at b⟩
theorem GZ.empty (e:TypeId)(w:World):GZ S e Z (w.alloc (.cells #[] e)) w.heap.size (.slice (some ⟨w.heap.size,0,none⟩) 0 0) []:=
 ⟨[],Ku w #[] 0 (Ja _) (by unfold maxLen;omega) (by simp),λz a=>by simp at a,λi x b=>by simp at b⟩
theorem GZ.len {t:List α}(h:GZ S e Z w B (.slice (some ⟨g,0,none⟩) n c) t):t.length=n:=by
 obtain⟨us,a,_⟩:=h;rcases a.2 with⟨e,_⟩|⟨g',cap,cur,e,_⟩
 ·simp at e
 ·simp only[Ji] at e;exact e.2.1.symm
theorem GZ.there {t:List α}(h:GZ S e Z w B (.slice (some ⟨g,0,none⟩) n c) t)(i:Nat)(d:i<t.length):w.there g (i*S.k) S.k:=by
 have b:=h.len;obtain⟨us,a,o,m⟩:=h;subst b;intro j l;refine⟨?_,a.frozenAt _⟩;have f:(i+1)*S.k<=t.length*S.k:=Kf _ d;rw[LK,LL] at f;rw[a.cellAt (i*S.k+j) (by omega),IV (by rw[a.1];omega)];rfl
theorem GZ.stored {t:List α}(h:GZ S e Z w B (.slice (some ⟨g,0,none⟩) n c) t)(i:Nat)(C:i<t.length)(m:α)(vs:List Value)(a:S.R (λb=>b=g\/Z b) w vs m):
  GZ S e Z (w.setCells g (i*S.k) vs) B (.slice (some ⟨g,0,none⟩) n c) (t.set i m)/\w.grownBy (w.setCells g (i*S.k) vs) (some g):=by
 have r:=h.len;obtain⟨us,A,I,H⟩:=h;subst r;have q:=A.1;have u:=S.len a;have E:(i+1)*S.k<=t.length*S.k:=Kf _ C;rw[LK,LL] at E;obtain⟨F,G,d,N,o⟩:=oH vs (i*S.k) w us A (by rw[q,u];exact E);have y:am (λb=>some b=(Value.slice (some ⟨g,0,none⟩) t.length c).ownBlock\/Z b) w (w.setCells g (i*S.k) vs):=⟨d.os,d.tape,d.output,d.size,λk j r=>d.block k j (λe=>r (.inl e))⟩;refine⟨⟨F,by rw[JA];exact G,λz J=>?_,λk x l=>?_⟩,d⟩
 ·obtain⟨k,j⟩:=List.getElem?_of_mem J
  rw[o] at j;split at j
  ·exact S.one a z (Km j)
  ·exact I z (Km j)
 ·rw[Mc] at l
  by_cases v:i=k
  ·subst v
   rw[if_pos rfl,if_pos C] at l;cases l;refine⟨vs,λf D=>?_,S.step (S.mono a λb K=>K.imp (λe=>by cases e;rfl) id) y⟩;rw[o,u,if_pos ⟨by omega,by omega⟩,LR]
  ·rw[if_neg v] at l
   obtain⟨p,M,L⟩:=H k x l;refine⟨p,λf D=>?_,S.step L y⟩;rw[o,u,if_neg,M f D];rintro⟨P,O⟩;rcases Nat.lt_or_gt_of_ne v with s|s
   ·have:=Kf S.k (show i+1<=k from s)
    rw[LK,LL] at this;omega
   ·have:=Kf S.k (show k+1<=i from s)
    rw[LK,LL] at this;omega
end
structure SK (P:Program)(t e:TypeId)(k:Nat):Prop where
 mk ::
 ht:P.underlying t=some (.slice e)
 hi:∃ i z,P.info? e=some i/\i.zero=some z/\i.size=k/\i.bytes<=128/\z.cells.size=k
theorem SK.mk' (g:P.underlying t=some (.slice e))(h:(P.info? e).map (λi=>(i.zero,i.size,i.bytes))=some (some z,k,b))(l:b<=128)(f:z.cells.size=k):SK P t e k:=by
 obtain⟨i,j,c,a,d⟩:=info_parts h;exact⟨g,i,z,j,c,a,by omega,f⟩
theorem SE.flat {a:Nat}{t:List α}(h:∀ i x,t[i]?=some x->∃ vs,w.rangeAt b (a+i*S.k) vs/\S.R Z w vs x):
  ∃ us:List Value,us.length=t.length*S.k/\(∀ z∈us,z.oneCell'=true)/\(∀ j z,us[j]?=some z->w.cell? ⟨b,a+j,none⟩=some z) /\
   ∀ i x,t[i]?=some x->∃ vs,(∀ f,f<S.k->us[i*S.k+f]?=vs[f]?)/\S.R Z w vs x:=by
 have key:∀ n,n<=t.length->∃ us:List Value,us.length=n*S.k/\(∀ z∈us,z.oneCell'=true)/\(∀ j z,us[j]?=some z->w.cell? ⟨b,a+j,none⟩=some z) /\
   ∀ i x,i<n->t[i]?=some x->∃ vs,(∀ f,f<S.k->us[i*S.k+f]?=vs[f]?)/\S.R Z w vs x:=by
  intro n;induction n with
  | zero=>exact λ_=>⟨[],by simp,λz e=>by simp at e,λj z l=>by simp at l,λi x v=>by omega⟩
  | succ n ih=>
   intro E;obtain⟨us,d,r,q,p⟩:=ih (by omega);obtain⟨vs,y,s⟩:=h n t[n] (IV (by omega));have B:=S.len s;refine⟨us++vs,by rw[Jc,d,B,LK,LL],λz e=>?_,λj z l=>?_,λi x v g=>?_⟩
   ·rcases JV.1 e with e|e
    ·exact r z e
    ·exact S.one s z e
   ·by_cases m:j<us.length
    ·rw[JE m] at l
     exact q j z l
    ·rw[JB (by omega)] at l
     have:=y _ z l;rw[d] at this m;rwa [show a+n*S.k+(j - n*S.k)=a+j by omega] at this
   ·by_cases c:i<n
    ·obtain⟨o,D,C⟩:=p i x c g
     refine⟨o,λf u=>?_,C⟩;have A:(i+1)*S.k<=n*S.k:=Kf _ c;rw[LK,LL] at A;rw[JE (by rw[d];omega)];exact D f u
    ·have:i=n:=by omega
     subst this;rw[IV (by omega)] at g;cases g;refine⟨vs,λf u=>?_,s⟩;rw[JB (by rw[d];omega),d,LR]
 obtain⟨us,d,r,q,p⟩:=key t.length (Ja _);exact⟨us,d,r,q,λi x g=>p i x (JH.1 g).1 g⟩
theorem Sh.moved {c:Value}{x:α}(h:S.R (λg=>some g=v.ownBlock\/Z g) w vs x)(b:w.grownBy w' v.ownBlock)(a:c.ownBlock=v.ownBlock\/c.ownBlock=some w.heap.size):
  S.R (λg=>some g=c.ownBlock\/Z g) w' vs x:=by
 have i:=S.fresh h;have f:S.R (λg=>(some g=v.ownBlock\/Z g)\/w.heap.size<=g) w' vs x:=S.step i ⟨b.os,b.tape,b.output,b.size,λk a d=>b.block k a (λe=>d (.inl (.inl e)))⟩;refine S.mono f λg e=>?_
 rcases e with e|e
 ·rcases a with a|a
  ·exact .inl (.inl (by rw[<-a];exact e))
  ·rw[a] at e
   simp only[JL] at e;exact .inr (by omega)
 ·exact .inl (.inr e)
theorem fq (K:SK P t e S.k){H:Array Oper}{rest:List Oper}{o:Oper}{a:Act}{Q:Exit->Act->World->Prop}(D:o.guard=none)(s x:Operand)
  (ho:o.op=.call { callee:=.builtin .append,args:=#[s,x],argTypes:=#[t,t] })
  (B:Nat) (v:Value) (d:List α) (Y:a.eval s=v) (J:GZ S e Z w B v d) (u:Value) (r:List α) (X:a.eval x=u) (hu:SE S (λg=>some g=v.ownBlock\/Z g) w u r) (M:d.length+r.length<=1000000) (n:B<=w.heap.size)
  (h:∀ p w',GZ S e Z w' B p (d++r)->w.grownBy w' v.ownBlock->(p.ownBlock=v.ownBlock\/p.ownBlock=some w.heap.size)->wpList P H Q rest (a.put o.dst p) w'):wpList P H Q (o :: rest) a w:=by
 obtain⟨i,z,hi,hz,l,ae,I⟩:=K.hi;obtain⟨us,R,h2,h3⟩:=J;obtain⟨ad,c,rfl,hc,hm,L,E⟩:=hu;have O:(d.length+r.length)*i.bytes<=140737488355328:=by
  have:=La M ae;omega
 by_cases h0:0<r.length
 ·obtain⟨b,V,rfl,_,hn⟩:=E h0
  obtain⟨q,n1,n2,n3,n4⟩:=SE.flat hn;refine wpList_append_own_at w D s x t ho B e i z S.k i.bytes K.ht hi hz l rfl I S.pos v d.length us Y R ⟨b,V,none⟩ r.length c q X n1 (λj y m=>?_) n2 (by unfold maxLen;omega) O n
   (λp w' W G _ F=>h p w' ⟨us++q,by rw[Jc];exact W,λy A=>?_,λj y m=>?_⟩ G F)
  ·rw[Addr.add_mid]
   exact n3 j y m
  ·rcases JV.1 A with A|A
   ·exact h2 y A
   ·exact n2 y A
  ·have C:=R.1
   by_cases N:j<d.length
   ·rw[JE N] at m
    obtain⟨vs,U,T⟩:=h3 j y m;refine⟨vs,λf hf=>?_,Sh.moved T G F⟩;have h5:(j+1)*S.k<=d.length*S.k:=Kf _ N;rw[LK,LL] at h5;rw[JE (by rw[C];omega)];exact U f hf
   ·rw[JB (by omega)] at m
    obtain⟨vs,U,T⟩:=n4 (j - d.length) y m;refine⟨vs,λf hf=>?_,Sh.moved T G F⟩;have h5:d.length*S.k<=j*S.k:=Kf _ (by omega);rw[JB (by rw[C];omega),C,<-U f hf,Nat.sub_mul];congr 1
    omega
 ·have aa:r=[]:=Ju (by omega)
  subst aa;cases ad with
  | none=>
   have ab:=L rfl;subst ab;refine wpList_append_own_none D s x t ho B e i S.k K.ht hi v d.length us Y R X ?_;exact h v w ⟨us,by simpa using R,h2,by simpa using h3⟩ ⟨rfl,rfl,rfl,Ja _,λ_ _ _=>rfl⟩ (.inl rfl)
  | some ad=>
   refine wpList_append_own_at w D s x t ho B e i z S.k i.bytes K.ht hi hz l rfl I S.pos v d.length us Y R ad 0 c [] X (by simp) (λj y m=>by simp at m) (λy A=>by simp at A) (by unfold maxLen;omega) (by simpa using O) n
    (λp w' W G _ F=>h p w' ⟨us,by simpa using W,h2,λj y m=>?_⟩ G F)
   rw[Kj] at m;obtain⟨vs,U,T⟩:=h3 j y m;exact⟨vs,U,Sh.moved T G F⟩
end
structure Sd where
 node:Int
 seed:List UInt8
structure Se where
 half:List UInt8
 b:List UInt8
structure St where
 pub:List UInt8
 fors:List Se
structure Pa where
 pub:List UInt8
 step:List St
def RZ (Z:Nat->Prop)(w:World)(v:Value)(l:List UInt8):Prop:=Rd w v l/\bq Z v
theorem RZ.mono (h:RZ Z w v l)(b:∀ g,a g->Z g):RZ a w v l:=⟨h.1,h.2.mono b⟩
theorem RZ.solid (h:RZ Z w v l)(b:∀ g,a g->Z g\/¬bX w g):RZ a w v l:=⟨h.1,h.2.solid h.1.solid b⟩
theorem RZ.step (h:RZ Z w v l)(a:am Z w w'):RZ Z w' v l:=⟨h.1.stepF a h.2,h.2⟩
theorem RZ.one (h:RZ Z w v l):v.oneCell'=true:=by
 obtain⟨a,c,rfl,_⟩:=h.1.shape;rfl
theorem SZ.one {S:Sh α}{l:List α}(h:SZ S Z w v l):v.oneCell'=true:=by
 obtain⟨a,c,rfl,_⟩:=h.1.shape;rfl
theorem mC {a b:Value}(e:a.oneCell'=true)(d:b.oneCell'=true):∀ z∈[a,b],z.oneCell'=true:=by
 intro z c;simp only[Ki,LC,or_false] at c;rcases c with rfl|rfl
 ·exact e
 ·exact d
def bY:Sh Sd where
 k:=2
 pos:=by decide
 R:=λZ w vs x=>∃ q,vs=[.int .i64 x.node,q]/\RZ Z w q x.seed
 len:=fun⟨_,e,_⟩=>by rw[e];rfl
 one:=fun⟨_,e,h⟩=>by rw[e];exact mC rfl h.one
 solid:=fun⟨q,e,h⟩ hz=>⟨q,e,h.solid hz⟩
 step:=fun⟨q,e,h⟩ hs=>⟨q,e,h.step hs⟩
def da:Sh Se where
 k:=2
 pos:=by decide
 R:=λZ w vs x=>∃ p q,vs=[p,q]/\RZ Z w p x.half/\RZ Z w q x.b
 len:=fun⟨_,_,e,_⟩=>by rw[e];rfl
 one:=fun⟨_,_,e,h1,h2⟩=>by rw[e];exact mC h1.one h2.one
 solid:=fun⟨p,q,e,h1,h2⟩ hz=>⟨p,q,e,h1.solid hz,h2.solid hz⟩
 step:=fun⟨p,q,e,h1,h2⟩ hs=>⟨p,q,e,h1.step hs,h2.step hs⟩
def bZ:Sh St where
 k:=2
 pos:=by decide
 R:=λZ w vs x=>∃ p q,vs=[p,q]/\RZ Z w p x.pub/\SZ da Z w q x.fors
 len:=fun⟨_,_,e,_⟩=>by rw[e];rfl
 one:=fun⟨_,_,e,h1,h2⟩=>by rw[e];exact mC h1.one h2.one
 solid:=fun⟨p,q,e,h1,h2⟩ hz=>⟨p,q,e,h1.solid hz,h2.solidly hz⟩
 step:=fun⟨p,q,e,h1,h2⟩ hs=>⟨p,q,e,h1.step hs,h2.step hs⟩
theorem tP {x:Sd}(a:w.rangeAt b o vs)(h:bY.R Z w vs x):∃ q,w.cell? ⟨b,o,none⟩=some (.int .i64 x.node)/\w.cell? ⟨b,o+1,none⟩=some q/\RZ Z w q x.seed:=by
 obtain⟨q,rfl,h⟩:=h;exact⟨q,a 0 _ rfl,a 1 _ rfl,h⟩
theorem qE {x:Se}(a:w.rangeAt b o vs)(h:da.R Z w vs x):∃ p q,w.cell? ⟨b,o,none⟩=some p/\w.cell? ⟨b,o+1,none⟩=some q/\RZ Z w p x.half/\RZ Z w q x.b:=by
 obtain⟨p,q,rfl,h⟩:=h;exact⟨p,q,a 0 _ rfl,a 1 _ rfl,h⟩
theorem qF {x:St}(a:w.rangeAt b o vs)(h:bZ.R Z w vs x):∃ p q,w.cell? ⟨b,o,none⟩=some p/\w.cell? ⟨b,o+1,none⟩=some q/\RZ Z w p x.pub/\SZ da Z w q x.fors:=by
 obtain⟨p,q,rfl,h⟩:=h;exact⟨p,q,a 0 _ rfl,a 1 _ rfl,h⟩
def SL (w:World)(v:Value)(l:List Sd):Prop:=aL bY w v l
def EL (w:World)(v:Value)(l:List Se):Prop:=aL da w v l
def eo (w:World)(v:Value)(l:List St):Prop:=aL bZ w v l
structure PIn (w:World)(x y:Value)(p:Pa):Prop where
 mk ::
 pub:Rd w x p.pub
 step:aL bZ w y p.step
theorem PIn.kp {x y:Value}{p:Pa}(h:PIn w x y p)(k:Kp w w'):PIn w' x y p:=⟨h.pub.kp k,aL.kp h.step k⟩
def aO (l:List Sd)(i:Nat):Sd:=l.getD i ⟨0,[]⟩
def aM (l:List Se)(i:Nat):Se:=l.getD i ⟨[],[]⟩
def aC (l:List St)(i:Nat):St:=l.getD i ⟨[],[]⟩
theorem SL.node {l:List Sd}(h:SL w v l)(f:i<l.length):
  ∃ b d c q,v=.slice (some ⟨b,d,none⟩) l.length c/\b<w.heap.size/\w.cell? ⟨b,d+i*2,none⟩=some (.int .i64 (aO l i).node)/\w.cell? ⟨b,d+i*2+1,none⟩=some q/\Rd w q (aO l i).seed:=by
 obtain⟨a,c,rfl,s,r⟩:=SE.shape h;obtain⟨b,d,rfl,m,k⟩:=SE.at h (by omega);obtain⟨vs,j,g⟩:=k i l[i] (IV f);obtain⟨q,p,o,n⟩:=tP j g;have e:aO l i=l[i]:=by unfold aO;rw[IU,IV f];rfl
 rw[e];exact⟨b,d,c,q,rfl,m,p,o,n.1⟩
theorem EL.node {l:List Se}(h:EL w v l)(f:i<l.length):
  ∃ b d c p q,v=.slice (some ⟨b,d,none⟩) l.length c/\b<w.heap.size/\w.cell? ⟨b,d+i*2,none⟩=some p/\w.cell? ⟨b,d+i*2+1,none⟩=some q/\Rd w p (aM l i).half/\Rd w q (aM l i).b:=by
 obtain⟨a,c,rfl,u,t⟩:=SE.shape h;obtain⟨b,d,rfl,m,k⟩:=SE.at h (by omega);obtain⟨vs,j,g⟩:=k i l[i] (IV f);obtain⟨p,q,s,r,o,n⟩:=qE j g;have e:aM l i=l[i]:=by unfold aM;rw[IU,IV f];rfl
 rw[e];exact⟨b,d,c,p,q,rfl,m,s,r,o.1,n.1⟩
theorem eo.node {l:List St}(h:eo w v l)(f:i<l.length):
  ∃ b d c p q,v=.slice (some ⟨b,d,none⟩) l.length c/\b<w.heap.size/\w.cell? ⟨b,d+i*2,none⟩=some p/\w.cell? ⟨b,d+i*2+1,none⟩=some q/\Rd w p (aC l i).pub/\EL w q (aC l i).fors:=by
 obtain⟨a,c,rfl,u,t⟩:=SE.shape h;obtain⟨b,d,rfl,m,k⟩:=SE.at h (by omega);obtain⟨vs,j,g⟩:=k i l[i] (IV f);obtain⟨p,q,s,r,o,n⟩:=qF j g;have e:aC l i=l[i]:=by unfold aC;rw[IU,IV f];rfl
 rw[e];exact⟨b,d,c,p,q,rfl,m,s,r,o.1,n.1⟩
theorem SE.lit1 {S:Sh α}{x:α}{cs:Array Value}(e:TypeId)(h:S.R noB w vs x)(c:cs.toList=vs):aL S (w.alloc (.cells cs e)) (.slice (some ⟨w.heap.size,0,none⟩) 1 1) [x]:=by
 refine⟨_,1,rfl,Ja _,by unfold maxLen;omega,λh=>(by cases h),λ_=>⟨w.heap.size,0,rfl,by simp,λi y a=>?_⟩⟩;have f:i<1:=(JH.1 a).1;obtain rfl:i=0:=by omega
 cases a;refine⟨vs,λj z b=>?_,S.kp h ((Kp.refl w).alloc _)⟩;have d:=(Bx.new w e cs).cell j;subst c;rw[show 0+0*S.k+j=j by omega,d,<-MB];exact b
def IZ (Z:Nat->Prop)(w:World)(v:Value)(l:List Int):Prop:=RI w v l/\bq Z v
theorem IZ.solid {l:List Int}(h:IZ Z w v l)(b:∀ g,a g->Z g\/¬bX w g):IZ a w v l:=⟨h.1,h.2.solid h.1.solid b⟩
theorem IZ.step {l:List Int}(h:IZ Z w v l)(a:am Z w w'):IZ Z w' v l:=⟨h.1.stepF a h.2,h.2⟩
theorem IZ.one {l:List Int}(h:IZ Z w v l):v.oneCell'=true:=by
 obtain⟨a,c,e⟩:=h.1.sl;obtain⟨n,rfl⟩:=e;rfl
theorem si {a:Value}(c:a.oneCell'=true):∀ z∈[a],z.oneCell'=true:=by
 intro z b;simp only[Ki,LC,or_false] at b;subst b;exact c
def iR:Sh (List Int) where
 k:=1
 pos:=by decide
 R:=λZ w vs x=>∃ q,vs=[q]/\IZ Z w q x
 len:=fun⟨_,e,_⟩=>by rw[e];rfl
 one:=fun⟨_,e,h⟩=>by rw[e];exact si h.one
 solid:=fun⟨q,e,h⟩ hz=>⟨q,e,h.solid hz⟩
 step:=fun⟨q,e,h⟩ hs=>⟨q,e,h.step hs⟩
def fZ:Sh (List UInt8) where
 k:=1
 pos:=by decide
 R:=λZ w vs x=>∃ q,vs=[q]/\RZ Z w q x
 len:=fun⟨_,e,_⟩=>by rw[e];rfl
 one:=fun⟨_,e,h⟩=>by rw[e];exact si h.one
 solid:=fun⟨q,e,h⟩ hz=>⟨q,e,h.solid hz⟩
 step:=fun⟨q,e,h⟩ hs=>⟨q,e,h.step hs⟩
structure Stp where
 node:Int
 cover:List Int
def iS:Sh Stp where
 k:=2
 pos:=by decide
 R:=λZ w vs x=>∃ q,vs=[.int .i64 x.node,q]/\IZ Z w q x.cover
 len:=fun⟨_,e,_⟩=>by rw[e];rfl
 one:=fun⟨_,e,h⟩=>by rw[e];exact mC rfl h.one
 solid:=fun⟨q,e,h⟩ hz=>⟨q,e,h.solid hz⟩
 step:=fun⟨q,e,h⟩ hs=>⟨q,e,h.step hs⟩
theorem aL.get {S:Sh α}{l:List α}(h:aL S w v l){x:α}(e:l[i]?=some x):
  ∃ b d c vs,v=.slice (some ⟨b,d,none⟩) l.length c/\b<w.heap.size/\w.rangeAt b (d+i*S.k) vs/\S.R noB w vs x:=by
 have n:=(JH.1 e).1;obtain⟨a,c,rfl,p,o⟩:=SE.shape h;obtain⟨b,d,rfl,m,j⟩:=SE.at h (by omega);obtain⟨vs,g,f⟩:=j i x e;exact⟨b,d,c,vs,rfl,m,g,f⟩
def ii (l:List (List Int))(i:Nat):List Int:=l.getD i []
def kr (l:List (List UInt8))(i:Nat):List UInt8:=l.getD i []
def dl (l:List Stp)(i:Nat):Stp:=l.getD i ⟨0,[]⟩
theorem aL.ns {l:List (List Int)}(h:aL iR w v l)(d:i<l.length):
  ∃ b a c q,v=.slice (some ⟨b,a,none⟩) l.length c/\b<w.heap.size/\w.cell? ⟨b,a+i,none⟩=some q/\RI w q (ii l i):=by
 obtain⟨b,a,c,vs,e,j,g,q,rfl,f⟩:=aL.get h (IV d);have k:ii l i=l[i]:=by unfold ii;rw[IU,IV d];rfl
 rw[k];have:=g 0 _ rfl;exact⟨b,a,c,q,e,j,by simpa [iR] using this,f.1⟩
theorem aL.bs {l:List (List UInt8)}(h:aL fZ w v l)(d:i<l.length):
  ∃ b a c q,v=.slice (some ⟨b,a,none⟩) l.length c/\b<w.heap.size/\w.cell? ⟨b,a+i,none⟩=some q/\Rd w q (kr l i):=by
 obtain⟨b,a,c,vs,e,j,g,q,rfl,f⟩:=aL.get h (IV d);have k:kr l i=l[i]:=by unfold kr;rw[IU,IV d];rfl
 rw[k];have:=g 0 _ rfl;exact⟨b,a,c,q,e,j,by simpa [fZ] using this,f.1⟩
theorem aL.sp {l:List Stp}(h:aL iS w v l)(f:i<l.length):
  ∃ b a c q,v=.slice (some ⟨b,a,none⟩) l.length c/\b<w.heap.size/\w.cell? ⟨b,a+i*2,none⟩=some (.int .i64 (dl l i).node)/\w.cell? ⟨b,a+i*2+1,none⟩=some q/\RI w q (dl l i).cover:=by
 obtain⟨b,a,c,vs,e,j,d,q,rfl,g⟩:=aL.get h (IV f);have k:dl l i=l[i]:=by unfold dl;rw[IU,IV f];rfl
 rw[k];exact⟨b,a,c,q,e,j,d 0 _ rfl,d 1 _ rfl,g.1⟩
structure Cs (w w':World):Prop where
 mk ::
 os:w'.os=w.os
 tape:w'.tape=w.tape
 output:w'.output=w.output
 size:w.heap.size<=w'.heap.size
 block:∀ k,bX w k->w'.heap[k]?=w.heap[k]?
theorem Cs.solid (h:Cs w w')(d:bX w k):bX w' k:=by
 have:=h.block k d;obtain⟨a,b,c,e⟩:=d;exact⟨a,b,c,by rw[this,e]⟩
theorem Cs.trans {a b c:World}(h:Cs a b)(k:Cs b c):Cs a c:=
 ⟨k.os.trans h.os,k.tape.trans h.tape,k.output.trans h.output,Js h.size k.size,λi d=>(k.block i (h.solid d)).trans (h.block i d)⟩
theorem Kp.cs (h:Kp w w'):Cs w w':=⟨h.os,h.tape,h.output,h.size,λk a=>h.block k a.lt⟩
theorem Cs.grown {m:Nat}(h:w.grownBy w' (some m))(b:¬bX w m):Cs w w':=
 ⟨h.os,h.tape,h.output,h.size,λk a=>h.block k a.lt λe=>by cases e;exact b a⟩
theorem Cs.step (h:Cs w w'):am (λg=>¬bX w g) w w':=⟨h.os,h.tape,h.output,h.size,λk _ a=>h.block k (Kw.1 a)⟩
theorem am.cs (h:am Y w w')(b:∀ g,Y g->¬bX w g):Cs w w':=⟨h.os,h.tape,h.output,h.size,λk a=>h.block k a.lt λe=>b k e a⟩
theorem Rd.cs (h:Rd w v l)(k:Cs w w'):Rd w' v l:=h.stepF k.step λx n c e b a=>a (h.solid x n c e b)
theorem RI.cs {l:List Int}(h:RI w v l)(k:Cs w w'):RI w' v l:=h.stepF k.step λx n c e b a=>a (h.solid x n c e b)
theorem aL.cs {S:Sh α}{l:List α}(h:aL S w v l)(k:Cs w w'):aL S w' v l:=
 ((SZ.step (Z:=λg=>¬bX w g) (SZ.solidly (aL.sz h) λg a=>.inr a) k.step).1).mono λ_ h=>h.elim
theorem Cs.cell (h:Cs w w'){a:Addr}(b:w.cell? a=some v):w'.cell? a=some v:=by
 have:=h.block a.block (bX.of_cell b);rw[Ll (w:=w) (a:=a) this];exact b
theorem Bx.cs {T:TypeId}{cs:Array Value}(h:Bx w b T cs)(k:Cs w w'):Bx w' b T cs:=(k.block b ⟨_,_,_,h⟩).trans h
section
open Go.Maps
def eA:Value->Option (DataW Value × List MemPlace):=λv=>some (.held v,[])
def sdV (x:Int)(q:Value):Value:=.agg #[.int .i64 x,q]
def gI (w:World)(v:Value)(s:Sd):Prop:=∃ q,v=sdV s.node q/\Rd w q s.seed
theorem gI.cs {s:Sd}(h:gI w v s)(k:Cs w w'):gI w' v s:=by
 obtain⟨q,e,r⟩:=h;exact⟨q,e,r.cs k⟩
structure KM (P:Program)(k:TypeId)(w:World)(m n:Nat)(S:Sd->Prop):Prop where
 mk ::
 ex:∃ D,w.ownsMap P k eA m n D/\(∀ x:Int,Maps.has D (.int .i64 x)=true↔∃ s,S s/\s.node=x)/\∀ s,S s->∃ v,(∀ zd,D.atKey (.int .i64 s.node) zd=.held v)/\gI w v s
 one:∀ s s',S s->S s'->s.node=s'.node->s=s'
section
variable {P : Program} {k : TypeId} {w w' : World} {m n : Nat} {S : Sd -> Prop}
theorem KM.lt (h:KM P k w m n S):m<w.heap.size:=by
 obtain⟨D,a,_⟩:=h.ex;exact a.lt
theorem KM.nosolid (h:KM P k w m n S):¬bX w m:=by
 obtain⟨D,⟨b,c,a,_⟩,_⟩:=h.ex;exact zX a
theorem KM.made (w:World)(P:Program)(k:TypeId):KM P k (w.alloc (.map #[] 0)) w.heap.size 0 (λ_=>False):=
 ⟨⟨_,World.ownsMap_made w P k eA,λx=>⟨λh=>by simp[Maps.has] at h,fun⟨s,h,_⟩=>h.elim⟩,λs h=>h.elim⟩,λs a h=>h.elim⟩
theorem KM.kp (h:KM P k w m n S)(c:Kp w w'):KM P k w' m n S:=by
 obtain⟨⟨D,l,j,g⟩,f⟩:=h;refine⟨⟨D,l.kept ⟨c.os,c.tape,c.output,c.size,λi e _=>c.block i e⟩ (row:=none) (by simp),j,λs d=>?_⟩,f⟩;obtain⟨v,a,b⟩:=g s d;exact⟨v,a,b.cs c.cs⟩
theorem KM.mono (h:KM P k w m n S){n':Nat}(a:n<=n'):KM P k w m n' S:=by
 obtain⟨⟨D,e,d,c⟩,b⟩:=h;exact⟨⟨D,e.mono a,d,c⟩,b⟩
theorem KM.congr (h:KM P k w m n S){S':Sd->Prop}(a:∀ s,S' s↔S s):KM P k w m n S':=by
 have:S'=S:=funext λs=>propext (a s)
 rw[this];exact h
theorem KM.put {s:Sd}(q:∀ s c,S s->S c->s.node=c.node->s=c)(d:IsMap D)(t:∀ x:Int,Maps.has D (.int .i64 x)=true↔∃ s,S s/\s.node=x)
  (r:∀ s,S s->∃ v,(∀ zd,D.atKey (.int .i64 s.node) zd=.held v)/\gI w v s) (g:Cs w w') (l:gI w v s) (u:w'.ownsMap P k eA m n (D.put (.int .i64 s.node) (.held v))):
  KM P k w' m n (λy=>y=s\/(S y/\y.node≠s.node)):=by
 have f:WideAt.IsKeyLit (.int .i64 s.node):=trivial;refine⟨⟨_,u,λx=>?_,λy j=>?_⟩,λa b p o e=>?_⟩
 ·by_cases e:x=s.node
  ·subst e
   rw[has_put_same d f];exact⟨λ_=>⟨s,.inl rfl,rfl⟩,λ_=>rfl⟩
  ·rw[has_put_other (λh=>e (by simpa using h)),t x]
   constructor
   ·rintro⟨y,a,b⟩
    exact⟨y,.inr ⟨a,by rw[b];exact e⟩,b⟩
   ·rintro⟨y,a|⟨a,_⟩,b⟩
    ·subst a;exact absurd b.symm e
    ·exact⟨y,a,b⟩
 ·rcases j with rfl|⟨a,b⟩
  ·exact⟨v,λzd=>atKey_put_same d f _ zd,l.cs g⟩
  ·obtain⟨i,A,z⟩:=r y a
   refine⟨i,λzd=>?_,z.cs g⟩;rw[atKey_put_other (λh=>b (by simpa using h))];exact A zd
 ·rcases p with rfl|⟨F,E⟩ <;> rcases o with rfl|⟨C,B⟩
  ·rfl
  ·exact absurd e.symm B
  ·exact absurd e E
  ·exact q a b F C e
theorem KM.drop {x:Int}(l:∀ s c,S s->S c->s.node=c.node->s=c)(p:∀ x:Int,Maps.has D (.int .i64 x)=true↔∃ s,S s/\s.node=x)
  (o:∀ s,S s->∃ v,(∀ zd,D.atKey (.int .i64 s.node) zd=.held v)/\gI w v s) (g:Cs w w') (q:w'.ownsMap P k eA m n (D.del (.int .i64 x))):
  KM P k w' m n (λy=>S y/\y.node≠x):=by
 refine⟨⟨_,q,λz=>?_,λy d=>?_⟩,λa b j i e=>l a b j.1 i.1 e⟩
 ·by_cases e:z=x
  ·subst e
   rw[has_del_same];exact⟨λh=>(by cases h),fun⟨y,a,b⟩=>absurd b a.2⟩
  ·rw[has_del_other (λh=>e (by simpa using h)),p z]
   constructor
   ·rintro⟨y,a,b⟩
    exact⟨y,⟨a,by rw[b];exact e⟩,b⟩
   ·rintro⟨y,a,b⟩
    exact⟨y,a.1,b⟩
 ·obtain⟨f,t,r⟩:=o y d.1
  refine⟨f,λzd=>?_,r.cs g⟩;rw[atKey_del_other (λh=>d.2 (by simpa using h))];exact t zd
variable {ops : Array Oper} {rest : List Oper} {o : Oper} {a : Act} {Q : Exit -> Act -> World -> Prop} {e : TypeId}
theorem DN (E:o.guard=none)(f c d:Operand)(t:TypeId)(g:o.op=Op.mapUpdate t f c d)(K:Keyed P k)(z:P.underlying t=some (.map k e))(C:a.eval f=.map (some m))(h:KM P k w m n S)(B:n<maxLen)
  (s:Sd) (v:Value) (u:a.eval c=.int .i64 s.node) (x:a.eval d=v) (b:keyOf P k (.int .i64 s.node)=some (.int .i64 s.node)) (A:gI w v s)
  (F:∀ w',KM P k w' m (n+1) (λy=>y=s\/(S y/\y.node≠s.node))->w.grownBy w' (some m)->wpList P ops Q rest (a.put o.dst undef) w'):wpList P ops Q (o :: rest) a w:=by
 obtain⟨⟨D,j,q,p⟩,l⟩:=h;have i:=(KM.mk ⟨D,j,q,p⟩ l:KM P k w m n S).nosolid;refine wpList_mapUpdate_own w E f c d t g k e K z eA m n D C j B _ _ _ u x b (.held v) [] rfl λw' o' r=>F w' ?_ r
 exact KM.put l j.isMap q p (Cs.grown r i) A o'
theorem DO (v:o.guard=none)(d c:Operand)(t:TypeId)(f:o.op=Op.call { callee:=Callee.builtin Builtin.delete,args:=#[d,c],argTypes:=#[t,k] })(K:Keyed P k)(s:P.underlying t=some (.map k e))
  (u:a.eval d=.map (some m)) (h:KM P k w m n S) (x:Int) (r:a.eval c=.int .i64 x) (b:keyOf P k (.int .i64 x)=some (.int .i64 x))
  (z:∀ w',KM P k w' m n (λy=>S y/\y.node≠x)->w.grownBy w' (some m)->wpList P ops Q rest (a.put o.dst (.tuple #[])) w'):wpList P ops Q (o :: rest) a w:=by
 obtain⟨⟨D,p,l,j⟩,i⟩:=h;have g:=(KM.mk ⟨D,p,l,j⟩ i:KM P k w m n S).nosolid;refine wpList_delete_own w v d c t k f e K s eA m n D u p _ _ r b λw' o' q=>z w' ?_ q.grown
 exact KM.drop i l j (Cs.grown q.grown g) o'
theorem wX (y:o.guard=none)(d c:Operand)(t:TypeId)(f:o.op=Op.lookup t d c true)(K:Keyed P k)(r:P.underlying t=some (.map k e))(j:(zeroValue e).run P w=.ok z w)
  (u:a.eval d=.map (some m)) (h:KM P k w m n S) (s:Sd) (g:S s) (l:a.eval c=.int .i64 s.node) (b:keyOf P k (.int .i64 s.node)=some (.int .i64 s.node))
  (A:∀ q,Rd w q s.seed->wpList P ops Q rest (a.put o.dst (.tuple #[sdV s.node q,.bool true])) w):wpList P ops Q (o :: rest) a w:=by
 obtain⟨⟨D,E,C,B⟩,J⟩:=h;obtain⟨v,H,q,rfl,G⟩:=B s g;refine wpList_lookup_own_ok w y d c t f k e K r eA j (.held z) [] rfl m n D u E _ _ l b λi I p=>?_
 have F:DataW.held i=.held (sdV s.node q):=by
  have:=congrArg (λx=>x.map Prod.fst) p;simpa [eA,H] using this
 cases F;rw[(C _).2 ⟨s,g,rfl⟩];exact A q G
theorem wY (y:o.guard=none)(f d:Operand)(t:TypeId)(g:o.op=Op.lookup t f d true)(K:Keyed P k)(r:P.underlying t=some (.map k e))(l:(zeroValue e).run P w=.ok z w)
  (v:a.eval f=.map (some m)) (h:KM P k w m n S) (x:Int) (u:∀ s,S s->s.node≠x) (p:a.eval d=.int .i64 x) (c:keyOf P k (.int .i64 x)=some (.int .i64 x))
  (A:wpList P ops Q rest (a.put o.dst (.tuple #[z,.bool false])) w):wpList P ops Q (o :: rest) a w:=by
 obtain⟨⟨D,C,B,H⟩,G⟩:=h;have i:Maps.has D (.int .i64 x)=false:=by
  cases hh:Maps.has D (.int .i64 x)
  ·rfl
  ·obtain⟨s,a,b⟩:=(B x).1 hh
   exact absurd b (u s a)
 refine wpList_lookup_own_ok w y f d t g k e K r eA l (.held z) [] rfl m n D v C _ _ p c λj F q=>?_
 have E:DataW.held j=.held z:=by
  have:=congrArg (λx=>x.map Prod.fst) q;simpa [eA,atKey_of_not_has i] using this
 cases E;rw[i];exact A
theorem DP (B:o.guard=none)(i g:Operand)(t:TypeId)(d:o.op=Op.lookup t i g false)(K:Keyed P k)(u:P.underlying t=some (.map k e))(l:(zeroValue e).run P w=.ok z w)
  (A:a.eval i=.map (some m)) (h:KM P k w m n S) (s:Sd) (y:S s) (p:a.eval g=.int .i64 s.node) (c:keyOf P k (.int .i64 s.node)=some (.int .i64 s.node))
  (C:∀ q,Rd w q s.seed->wpList P ops Q rest (a.put o.dst (sdV s.node q)) w):wpList P ops Q (o :: rest) a w:=by
 obtain⟨⟨D,F,M,E⟩,L⟩:=h;obtain⟨v,I,q,rfl,H⟩:=E s y;refine wpList_plain B λN f=>?_
 obtain⟨j,J,b,r⟩:=F.lookup K u l (R:=eA) (zd:=.held z) (zp:=[]) rfl c;have G:DataW.held j=.held (sdV s.node q):=by
  have:=congrArg (λx=>x.map Prod.fst) r;simpa [eA,I] using this
 cases G;unfold Oper.wp;simp[execOp,d,A,p,b,Result.andThen];exact f _ _ (C q H)
end
end
section
open Go.ChangeShapes Go.Deep Go.WideShapes
instance:Inhabited Nod:=⟨aY⟩
section
variable {H : Type} {enc : TypeId × Value -> H} {P : Program} {w : World} {base : Nat} {spare : Nat -> Bool} {held : Bool}
theorem RI.of_one {x:DataW H × List MemPlace}(g:P.underlying t=some (.slice e))(k:P.underlying e=some (.int .i64))(m:P.cellsOf e=1)
  (h:DataW.trod enc P w base spare held c t [v]=some x):∃ l,RI w v l:=by
 rcases open_ints g k m h with⟨hcs,_⟩|⟨a,len,cap,zs,hcs,_,hl,hm,hz,_,hcell,_⟩
 ·cases hcs
  exact⟨[],RI.nil w⟩
 ·cases hcs
  have d:len<=zs.length:=by rw[hz];split <;> omega
  have b:((zs.take len).map nI).length=len:=by simp;omega
  refine⟨zs.take len,some a,cap,by rw[b],by rw[b];exact hl,hm,λh=>(by cases h),λy f i j=>?_⟩;cases f;rw[b] at j;rw[hcell i (by omega)];simp[nI,IU,IV (show i<zs.length by omega)]
theorem NL.of_cells {y s r o k:Field}{F:Nat}{cs:List Value}{x:DataW H × List MemPlace}{J U:TypeId}(ht:P.underlying t=some (.slice e))(he:P.underlying e=some (.struct #[y,s,r,o,k]))
  (c:oneCellFields P #[y,s,r,o,k]=true) (hC:P.cellsOf e=5) (I:P.underlying y.type=some (.int .i64)) (h1:P.underlying s.type=some (.int .i64)) (h2:P.underlying r.type=some (.slice J)) (h3:P.underlying o.type=some (.slice U)) (h4:P.underlying k.type=some (.slice J))
  (W:P.underlying J=some (.int .u8)) (E:P.cellsOf J=1) (G:P.underlying U=some (.int .i64)) (S:P.cellsOf U=1)
  (h:DataW.trod enc P w base spare held F t cs=some x):∃ v l,cs=[v]/\NL w v l:=by
 rcases open_slice ht h with⟨hcs,_⟩|⟨a,len,cap,m,n,D,Pl,hcs,_,hl,hm,hmm,_,hel⟩
 ·exact⟨_,[],hcs,NL.nil w⟩
 ·have aa:len<=m:=by rw[hmm];split <;> omega
  rw[hC] at hel;have key:∀ i,i<len->∃ nd:Nod,∃ p u q,(w.cell? (a.add (i*5))=some (.int .i64 nd.kind)/\w.cell? ((a.add (i*5)).add 1)=some (.int .i64 nd.name)/\w.cell? ((a.add (i*5)).add 2)=some p/\w.cell? ((a.add (i*5)).add 3)=some u/\w.cell? ((a.add (i*5)).add 4)=some q)/\NIn w nd p u q:=by
   intro i ab;obtain⟨V,T,N⟩:=hel i (by omega);obtain⟨_,O,d⟩:=World.cells?_some T;obtain⟨xs,n',_,_,_,L,B⟩:=DataW.trod_struct he N;obtain⟨o0,k0⟩:=hone_of c 0 y rfl;obtain⟨o1,k1⟩:=hone_of c 1 s rfl;obtain⟨o2,k2⟩:=hone_of c 2 r rfl;obtain⟨o3,k3⟩:=hone_of c 3 o rfl;obtain⟨o4,k4⟩:=hone_of c 4 k rfl;match V,O with
   | [c0,c1,c2,c3,c4],_=>
    have M:xs.length=5:=L;match xs,M with
    | [y0,y1,y2,y3,y4],_=>
     have g0:DataW.trod enc P w base spare held n' y.type [c0]=some y0:=by simpa [o0,k0] using B 0 y rfl
     have g1:DataW.trod enc P w base spare held n' s.type [c1]=some y1:=by simpa [o1,k1] using B 1 s rfl
     have g2:DataW.trod enc P w base spare held n' r.type [c2]=some y2:=by simpa [o2,k2] using B 2 r rfl
     have g3:DataW.trod enc P w base spare held n' o.type [c3]=some y3:=by simpa [o3,k3] using B 3 o rfl
     have g4:DataW.trod enc P w base spare held n' k.type [c4]=some y4:=by simpa [o4,k4] using B 4 k rfl
     obtain⟨n0,e0,_,_⟩:=DataW.trod_int I g0;obtain⟨n1,e1,_,_⟩:=DataW.trod_int h1 g1;cases e0;cases e1;obtain⟨l2,r2⟩:=Rd.of_one h2 W E g2;obtain⟨l3,r3⟩:=RI.of_one h3 G S g3;obtain⟨l4,r4⟩:=Rd.of_one h4 W E g4;refine⟨⟨n0,n1,l2,l3,l4⟩,c2,c3,c4,⟨?_,d 1 (by omega),d 2 (by omega),d 3 (by omega),d 4 (by omega)⟩,r2,r3,r4⟩;have:=d 0 (by omega);rwa [show(a.add (i*5)).add 0=a.add (i*5) by unfold Addr.add;split <;> simp_all] at this
  obtain⟨l,f,A⟩:=zP len _ key aY;refine⟨_,l,by rw[hcs,f],some a,cap,rfl,by omega,hm,λh=>(by cases h),λI=>?_⟩;rw[f] at I;obtain⟨b,K,z⟩:=a;obtain⟨p,u,q,⟨C,_⟩,_⟩:=A 0 I;have hs:z=none:=by simpa [Addr.add] using Mk C
  subst hs;refine⟨b,K,rfl,Jz w _ C,λi G=>?_⟩;rw[f] at G;obtain⟨p,u,q,⟨d0,d1,Z,Y,X⟩,R⟩:=A i G;simp only[Addr.add_mid] at d0 d1 Z Y X;refine⟨p,u,q,λj v g=>?_,R⟩;have Q:j<5:=(JH.1 g).1;match j,Q with
  | 0,_=>cases g;exact d0
  | 1,_=>cases g;exact d1
  | 2,_=>cases g;exact Z
  | 3,_=>cases g;exact Y
  | 4,_=>cases g;exact X
end

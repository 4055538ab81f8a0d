import Derived.Test.YthmhklmkgkfcpaaGreatDoorV12
set_option linter.all false
set_option maxHeartbeats 8000000
set_option maxRecDepth 100000
namespace Go.Proofs.YthmhklmkgkfcpaaGreatDoor
open Go.Proofs.Tryz Go.RowKit
variable {A w w':World}{B C N c g k n:Nat}{H P U:Nat->Value}{S S' Y Z a f:Nat->Prop}{b e:TypeId}{l:List Int}{r v:Value}{t:List Nod}{vs:List Value}{α:Type}
def upd (f:Nat->Value)(i:Nat)(x:Value):Nat->Value:=λj=>if j=i then x else f j
theorem dd (f:Nat->Value)(i:Nat)(x:Value):upd f i x i=x:=if_pos rfl
theorem cY (f:Nat->Value){i j:Nat}(x:Value)(h:j≠i):upd f i x j=f j:=if_neg h
structure NX (e ei:TypeId)(w:World)(B:Nat)(v:Value)(t:List Nod)(P U H:Nat->Value)(S:Nat->Prop):Prop where
 mk ::
 row:∃ us:List Value,w.ownsRow B e 5 v t.length us/\(∀ z∈us,z.oneCell'=true)/\∀ i,i<t.length->∀ f,f<5->us[i*5+f]?=(bV (ats t i) (P i) (U i) (H i))[f]?
 ins:∀ i,i<t.length->NIn w (ats t i) (P i) (U i) (H i)
 apv:∀ i,i<t.length->aR v (P i)/\aR v (U i)/\aR v (H i)
 own:∀ i,i<t.length->S i->OI ei w B (U i) (ats t i).un
 sep:∀ i,i<t.length->S i->∀ g,(U i).ownBlock=some g->v.ownBlock≠some g/\∀ j,j<t.length->aR (U i) (P j)/\aR (U i) (H j)/\(i≠j->aR (U i) (U j))
 inj:∀ i j,i<t.length->j<t.length->S i->S j->∀ g,(U i).ownBlock=some g->(U j).ownBlock=some g->i=j
theorem NX.kp (h:NX e b w B v t P U H S)(k:Kp w w'):NX e b w' B v t P U H S:=by
 obtain⟨us,g,f,d⟩:=h.row;exact⟨⟨us,nT g k,f,d⟩,λi a=>(h.ins i a).kp k,h.apv,λi a c=>(h.own i a c).kp k,h.sep,h.inj⟩
theorem NX.no {f:TypeId}(h:NX e f w B v t P U H S):NO e w B v t:=by
 obtain⟨us,d,c,b⟩:=h.row;exact⟨us,d,c,λi a=>⟨P i,U i,H i,b i a,h.ins i a,h.apv i a⟩⟩
theorem NX.weak {g:TypeId}(h:NX e g w B v t P U H S)(c:∀ i,i<t.length->S' i->S i):NX e g w B v t P U H S':=
 ⟨h.row,h.ins,h.apv,λi b a=>h.own i b (c i b a),λi b a=>h.sep i b (c i b a),λi j b f a d=>h.inj i j b f (c i b a) (c j f d)⟩
theorem fP (w:World)(g o:Nat):∀ (vs:List Value) (o:Nat),w.grownBy (w.setCells g o vs) (some g):=by
 intro vs
 induction vs generalizing w with
 | nil=>exact λo=>⟨rfl,rfl,rfl,IB _,λ_ _ _=>rfl⟩
 | cons v vs ih=>
  intro o
  have a:=ih (w.setCell ⟨g,o,none⟩ v) (o+1)
  refine⟨a.os,a.tape,a.output,by show w.heap.size<=((w.setCell ⟨g,o,none⟩ v).setCells g (o+1) vs).heap.size;have:=a.size;simpa using this,λk c b=>(a.block k (by simpa using c) b).trans ?_⟩
  exact Below.heap_setCell w _ _ k (λe=>b (by rw[e]))
theorem OI.grown9 {r:Option Nat}(h:OI e w B v l)(f:w.grownBy w' r)(d:∀ g,v.ownBlock=some g->r≠some g):OI e w' B v l:=by
 refine⟨h.1,?_⟩;rcases h.2 with j|⟨g,c,b,rfl,i,a,rest⟩
 ·exact .inl j
 ·exact .inr ⟨g,c,b,rfl,i,(f.block g (Iz.1 a).1 (λe=>d g rfl e.symm)).trans a,rest⟩
theorem NX.put {W:TypeId}{w2:World}(h:NX e W w B (.slice (some ⟨g,0,none⟩) N c) t P U H S)
  (I:w2.heap[g]?=w.heap[g]?) (i:Nat) (hi:i<t.length) (m:Nod) (p u q:Value)
  (af:∀ j,j<t.length->j≠i->NIn w2 (ats t j) (P j) (U j) (H j)) (S':Nat->Prop) (T:∀ j,j<t.length->j≠i->S' j->S j)
  (ad:∀ j,j<t.length->j≠i->S' j->OI W w2 B (U j) (ats t j).un)
  (ah:NIn w2 m p u q) (x:aR (.slice (some ⟨g,0,none⟩) N c) p/\aR (.slice (some ⟨g,0,none⟩) N c) u/\aR (.slice (some ⟨g,0,none⟩) N c) q)
  (ae:S' i->OI W w2 B u m.un)
  (G:S' i->∀ M,u.ownBlock=some M->g≠M/\aR u p/\aR u q/\∀ j,j<t.length->j≠i->aR u (P j)/\aR u (H j)/\aR u (U j))
  (ab:∀ j,j<t.length->j≠i->S' j->aR (U j) p/\aR (U j) q/\aR (U j) u)
  (K:S' i->∀ M,u.ownBlock=some M->∀ j,j<t.length->j≠i->S' j->(U j).ownBlock≠some M)
  (o:Nat) (vs:List Value) (ak:o+vs.length<=5) (J:∀ z∈vs,z.oneCell'=true)
  (hc:∀ f,f<5->(bV m p u q)[f]?=if o<=f/\f<o+vs.length then vs[f - o]? else (bV (ats t i) (P i) (U i) (H i))[f]?):
  NX e W (w2.setCells g (i*5+o) vs) B (.slice (some ⟨g,0,none⟩) N c) (t.set i m) (upd P i p) (upd U i u) (upd H i q) S':=by
 obtain⟨us,R,k2,k3⟩:=h.row;have hn:t.length=N:=by
  rcases R.2 with⟨e,_⟩|⟨O,ai,Q,e,_⟩
  ·simp at e
  ·simp only[IG] at e;exact e.2.1.symm
 subst hn;have aa:=R.1;have Z:w2.ownsRow B e 5 (.slice (some ⟨g,0,none⟩) t.length c) t.length us:=by
  refine⟨R.1,?_⟩;rcases R.2 with D|⟨O,ai,Q,a,hb,hg,rest⟩
  ·exact .inl D
  ·simp only[IG,Jo,JY,and_true] at a
   obtain⟨rfl,_,rfl⟩:=a;exact .inr ⟨g,c,Q,rfl,hb,I.trans hg,rest⟩
 have aj:i*5+5<=t.length*5:=by omega
 obtain⟨ys,y1,y2,y3,y4⟩:=nV vs (i*5+o) w2 us Z (by rw[aa];omega);have b:(t.set i m).length=t.length:=IW ..;have V:=fP w2 g 0 vs (i*5+o);have C:∀ j,ats (t.set i m) j=if j=i then m else ats t j:=λj=>dZ t i m j hi
 have L:∀ j,j<t.length->j≠i->aR (.slice (some ⟨g,0,none⟩) t.length c) (P j)/\aR (.slice (some ⟨g,0,none⟩) t.length c) (U j)/\aR (.slice (some ⟨g,0,none⟩) t.length c) (H j):=λj d _=>h.apv j d
 refine⟨⟨ys,by rw[b];exact y1,λz hz=>?_,λj d f hf=>?_⟩,λj d=>?_,λj d=>?_,λj d r=>?_,λj d r F s=>?_,λj k d n r y F D E=>?_⟩
 ·obtain⟨k,n⟩:=List.getElem?_of_mem hz
  rw[y4] at n;split at n
  ·exact J z (JT n)
  ·exact k2 z (JT n)
 ·rw[b] at d
  rw[y4,C];by_cases a:j=i
  ·subst a
   rw[if_pos rfl,dd,dd,dd,hc f hf];by_cases h5:o<=f/\f<o+vs.length
   ·rw[if_pos ⟨by omega,by omega⟩,if_pos h5,show j*5+f - (j*5+o)=f - o by omega]
   ·rw[if_neg (λhh=>h5 ⟨by omega,by omega⟩),if_neg h5]
    exact k3 j d f hf
  ·rw[if_neg a,cY _ _ a,cY _ _ a,cY _ _ a,if_neg (λhh=>by omega)]
   exact k3 j d f hf
 ·rw[b] at d
  rw[C];by_cases a:j=i
  ·subst a
   rw[if_pos rfl,dd,dd,dd];exact ah.grown (v:=.slice (some ⟨g,0,none⟩) t.length c) V x.1 x.2.1 x.2.2
  ·rw[if_neg a,cY _ _ a,cY _ _ a,cY _ _ a]
   obtain⟨b1,b2,b3⟩:=L j d a;exact(af j d a).grown (v:=.slice (some ⟨g,0,none⟩) t.length c) V b1 b2 b3
 ·rw[b] at d
  by_cases a:j=i
  ·subst a
   rw[dd,dd,dd];exact x
  ·rw[cY _ _ a,cY _ _ a,cY _ _ a]
   exact L j d a
 ·rw[b] at d
  rw[C];by_cases a:j=i
  ·subst a
   rw[if_pos rfl,dd];exact(ae r).grown9 V (λO A l=>(G r O A).1 (by simpa using l))
  ·rw[if_neg a,cY _ _ a]
   exact(ad j d a r).grown9 V (λO A l=>(h.sep j d (T j d a r) O A).1 l)
 ·rw[b] at d
  by_cases a:j=i
  ·subst a
   rw[dd] at s;obtain⟨Y,X,s3,s4⟩:=G r F s;refine⟨λl=>Y (by simpa [Value.ownBlock] using l),λk n=>?_⟩;rw[b] at n;by_cases l:k=j
   ·subst l
    rw[dd,dd,dd];exact⟨X,s3,λag=>absurd rfl ag⟩
   ·rw[dd,cY _ _ l,cY _ _ l,cY _ _ l]
    obtain⟨a1,a2,a3⟩:=s4 k n l;exact⟨a1,a2,λ_=>a3⟩
  ·rw[cY _ _ a] at s
   obtain⟨Y,X⟩:=h.sep j d (T j d a r) F s;refine⟨Y,λk n=>?_⟩;rw[b] at n;rw[cY _ _ a];by_cases l:k=i
   ·subst l
    rw[dd,dd,dd];obtain⟨a1,a2,a3⟩:=ab j d a r;exact⟨a1,a2,λ_=>a3⟩
   ·rw[cY _ _ l,cY _ _ l,cY _ _ l]
    exact X k n
 ·rw[b] at d n
  by_cases a:j=i
  ·by_cases l:k=i
   ·rw[a,l]
   ·subst a
    rw[dd] at D;rw[cY _ _ l] at E;exact absurd E (K r F D k n l y)
  ·rw[cY _ _ a] at D
   by_cases l:k=i
   ·subst l
    rw[dd] at E;exact absurd D (K y F E j d a r)
   ·rw[cY _ _ l] at E
    exact h.inj j k d n (T j d a r) (T k n l y) F D E
theorem jB {u x:Value}(a:∀ g,x.ownBlock=some g->C<=g)(b:∀ g,u.ownBlock=some g->g<C):aR u x:=λg d y n c e j f=>by
 have i:=b g d;have h:=a y.block (by rw[e];rfl);omega
theorem NX.len (h:NX e b w B (.slice (some ⟨g,0,none⟩) N c) t P U H S):t.length=N:=by
 obtain⟨us,a,_⟩:=h.row;rcases a.2 with⟨e,_⟩|⟨g',cap,cur,e,_⟩
 ·simp at e
 ·simp only[IG] at e;exact e.2.1.symm
theorem qa (t:List Nod)(i:Nat)(a:i<t.length):t.set i (ats t i)=t:=by
 rw[jA a];exact Lo a
theorem NX.clonePub {x E:TypeId}{q:World}(h:NX e x w B (.slice (some ⟨g,0,none⟩) N c) t P U H S)(K:Kp w q)(i:k<t.length)(u:¬S k)
  {p:Value} (r:Ow E q C p (ats t k).pub) (D:w.heap.size<=C) (y:g<w.heap.size):
  NX e x (q.setCells g (k*5+2) [p]) B (.slice (some ⟨g,0,none⟩) N c) t (upd P k p) (upd U k (U k)) (upd H k (H k)) S:=by
 have o:=h.kp K;have F:aR (.slice (some ⟨g,0,none⟩) N c) p:=jB (C:=C) r.own_ge (λl b=>by cases b;exact II y D);have:=o.put (w2:=q) rfl k i (ats t k) p (U k) (H k) (λj m _=>o.ins j m) S (λj _ _ h=>h) (λj m _ d=>o.own j m d) ⟨r.rd,(o.ins k i).un,(o.ins k i).hash⟩ ⟨F,(o.apv k i).2.1,(o.apv k i).2.2⟩
  (λd=>absurd d u) (λd=>absurd d u) (λj m s d=>?_) (λd=>absurd d u) 2 [p] (by simp) (λz v=>by
   simp at v;subst v;obtain⟨a,n,c,e⟩:=aA r.rd;rw[e];rfl) (λf A=>by
   match f,A with
   | 0,_=>rfl
   | 1,_=>rfl
   | 2,_=>rfl
   | 3,_=>rfl
   | 4,_=>rfl)
 ·rwa [qa t k i] at this
 ·refine⟨jB (C:=C) r.own_ge (λl b=>?_),?_,?_⟩
  ·have:=((h.own j m d).lt l b).2
   omega
  ·exact λl b=>((h.sep j m d l b).2 k i).2.1 l b
  ·exact λl b=>((h.sep j m d l b).2 k i).2.2 s l b
theorem NX.cloneUn {F:TypeId}{v:World}(h:NX e F w B (.slice (some ⟨g,0,none⟩) N c) t P U H S)(K:Kp w v)(m:k<t.length)(y:∀ j,S' j->j≠k->S j)
  {o:Value} (x:OI F v C o (ats t k).un) (E:w.heap.size<=C) (I:g<w.heap.size) (L:B<=w.heap.size):
  NX e F (v.setCells g (k*5+3) [o]) B (.slice (some ⟨g,0,none⟩) N c) t (upd P k (P k)) (upd U k o) (upd H k (H k)) S':=by
 have u:=h.kp K;have D:=λi b=>(x.lt i b).1
 have M:aR (.slice (some ⟨g,0,none⟩) N c) o:=jB (C:=C) D (λi b=>by cases b;exact II I E);have p:∀ i,o.ownBlock=some i->w.heap.size<=i:=λi b=>IU E (D i b)
 have:=u.put (w2:=v) rfl k m (ats t k) (P k) o (H k) (λj l _=>u.ins j l) S' (λj _ d r=>y j r d) (λj l d r=>u.own j l (y j r d)) ⟨(u.ins k m).pub,x.ri,(u.ins k m).hash⟩ ⟨(u.apv k m).1,M,(u.apv k m).2.2⟩
  (λ_=>x.mono (IU L E)) (λ_ A s=>⟨λe=>by have:=p A s;omega,(h.ins k m).pub.apart p,(h.ins k m).hash.apart p,λj l _=>⟨(h.ins j l).pub.apart p,(h.ins j l).hash.apart p,(h.ins j l).un.apart p⟩⟩)
  (λj l d r=>?_) (λ_ A s j l d r e=>by have Q:=((h.own j l (y j r d)).lt A e).2;have O:=p A s;omega) 3 [o] (by simp) (λz G=>by
   simp at G;subst G;obtain⟨a,n,c,e⟩:=x.ri.sl;rw[e];rfl) (λf J=>by
   match f,J with
   | 0,_=>rfl
   | 1,_=>rfl
   | 2,_=>rfl
   | 3,_=>rfl
   | 4,_=>rfl)
 ·rwa [qa t k m] at this
 ·have q:=y j r d
  refine⟨?_,?_,jB (C:=C) D (λi b=>?_)⟩
  ·exact λi b=>((h.sep j l q i b).2 k m).1 i b
  ·exact λi b=>((h.sep j l q i b).2 k m).2.1 i b
  ·have:=((h.own j l q).lt i b).2
   omega
theorem NX.cloneHash {D J:TypeId}{u:World}(h:NX e D w B (.slice (some ⟨g,0,none⟩) N c) t P U H S)(K:Kp w u)(d:k<t.length)
   (s:Ow J u C r (ats t k).hash) (I:w.heap.size<=C) (F:g<w.heap.size):
  NX e D (u.setCells g (k*5+4) [r]) B (.slice (some ⟨g,0,none⟩) N c) t (upd P k (P k)) (upd U k (U k)) (upd H k r) S:=by
 have p:=h.kp K;have L:aR (.slice (some ⟨g,0,none⟩) N c) r:=jB (C:=C) s.own_ge (λo b=>by cases b;exact II F I);have:=p.put (w2:=u) rfl k d (ats t k) (P k) (U k) r (λj i _=>p.ins j i) S (λj _ _ h=>h) (λj i _ l=>p.own j i l) ⟨(p.ins k d).pub,(p.ins k d).un,s.rd⟩ ⟨(p.apv k d).1,(p.apv k d).2.1,L⟩
  (λl=>p.own k d l) (λl y q=>?_) (λj i m l=>?_) (λl y q j i m x e=>m (h.inj j k i d x l y e q)) 4 [r] (by simp) (λz A=>by
   simp at A;subst A;obtain⟨a,n,c,e⟩:=aA s.rd;rw[e];rfl) (λf G=>by
   match f,G with
   | 0,_=>rfl
   | 1,_=>rfl
   | 2,_=>rfl
   | 3,_=>rfl
   | 4,_=>rfl)
 ·rwa [qa t k d] at this
 ·obtain⟨E,v⟩:=h.sep k d l y q
  refine⟨λe=>E (by rw[e];rfl),(v k d).1,jB (C:=C) s.own_ge (λo b=>?_),λj i m=>⟨(v j i).1,(v j i).2.1,(v j i).2.2 (λe=>m e.symm)⟩⟩;have:=((h.own k d l).lt o b).2;omega
 ·refine⟨?_,jB (C:=C) s.own_ge (λo b=>?_),?_⟩
  ·exact λo b=>((h.sep j i l o b).2 k d).1 o b
  ·have:=((h.own j i l).lt o b).2
   omega
  ·exact λo b=>((h.sep j i l o b).2 k d).2.2 m o b
theorem Bx.grown {b:Nat}{T:TypeId}{cs:Array Value}{r:Option Nat}(h:Bx w b T cs)(c:w.grownBy w' r)(a:some b≠r):Bx w' b T cs:=(c.block b (Iz.1 h).1 a).trans h
theorem NX.there (h:NX e b w B (.slice (some ⟨g,0,none⟩) N c) t P U H S)(i:Nat)(a:i<t.length)(f:Nat)(k:f<5):w.there g (i*5+f) 1:=λj d=>by
 have:=h.no.there i a (f+j) (by omega);rwa [<-Kw] at this
def bk (Z:Nat->Prop)(v:Value):Prop:=∀ x n c,v=.slice (some x) n c->0<n->¬Z x.block
theorem bk.mono (h:bk Z v)(b:∀ k,a k->Z k):bk a v:=λx n c e f d=>h x n c e f (b _ d)
theorem bk.nil (Z:Nat->Prop)(a:Option Addr)(c:Nat):bk Z (.slice a 0 c):=λx n d e b=>by
 simp only[IG] at e;omega
theorem Rd.inside {l:List UInt8}(h:Rd w v l):∀ x n c,v=.slice (some x) n c->0<n->x.block<w.heap.size:=λx n c e f=>by
 obtain⟨m,k,a,j,i,g,d⟩:=h;rw[e] at a;simp only[IG] at a;obtain⟨rfl,rfl,rfl⟩:=a;have b:=Jb w _ (d x rfl 0 f);rwa [eN] at b
theorem RI.inside (h:RI w v l):∀ x n c,v=.slice (some x) n c->0<n->x.block<w.heap.size:=λx n c e f=>by
 obtain⟨m,k,a,j,i,g,d⟩:=h;rw[e] at a;simp only[IG] at a;obtain⟨rfl,rfl,rfl⟩:=a;have b:=Jb w _ (d x rfl 0 f);rwa [eN] at b
theorem Rd.stepF {B:World}{l:List UInt8}(h:Rd A v l)(d:aj Y A B)(g:bk Y v):Rd B v l:=by
 obtain⟨a,c,e,o,n,m,k⟩:=h;subst e;refine⟨a,c,rfl,o,n,m,λx b i f=>?_⟩;have j:=k x b i f;subst b;exact d.cell j (by rw[eN];exact g x _ c rfl (by omega))
theorem RI.stepF {B:World}(h:RI A v l)(f:aj Y A B)(g:bk Y v):RI B v l:=by
 obtain⟨a,c,e,o,n,m,k⟩:=h;subst e;refine⟨a,c,rfl,o,n,m,λx b i d=>?_⟩;have j:=k x b i d;subst b;exact f.cell j (by rw[eN];exact g x _ c rfl (by first|omega|(rw[Jl] at d ⊢;omega)))
theorem bk.grew {B:World}(h:bk Y v)(a:∀ x n c,v=.slice (some x) n c->0<n->x.block<A.heap.size)(i:kg Y f A B):bk f v:=λx n c e d g=>by
 rcases i _ g with b|b
 ·exact h x n c e d b
 ·have:=a x n c e d
  omega
def iD (Z:Nat->Prop)(N:Nat)(P U H:Nat->Value):Prop:=∀ j,j<N->bk Z (P j)/\bk Z (U j)/\bk Z (H j)
theorem NX.stepF {l:TypeId}{B:World}(h:NX e l A C (.slice (some ⟨g,0,none⟩) n c) t P U H (λ_=>False))(a:aj Y A B)(p:¬Y g)(q:iD Y t.length P U H):
  NX e l B C (.slice (some ⟨g,0,none⟩) n c) t P U H (λ_=>False):=by
 obtain⟨us,k,u,s⟩:=h.row;refine⟨⟨us,⟨k.1,?_⟩,u,s⟩,λi b=>?_,h.apv,λi b a=>a.elim,λi b a=>a.elim,λi j b z a=>a.elim⟩
 ·rcases k.2 with o|⟨D,y,f,m,r,d,rest⟩
  ·exact .inl o
  ·simp only[IG,Jo,JY,and_true] at m
   obtain⟨rfl,_,rfl⟩:=m;exact .inr ⟨g,c,f,by simp_all,r,(a.block g (Iz.1 d).1 p).trans d,rest⟩
 ·obtain⟨x,w,v⟩:=q i b
  have b:=h.ins i b;exact⟨b.pub.stepF a x,b.un.stepF a w,b.hash.stepF a v⟩
theorem iD.grew {l:TypeId}{B:World}{d:Nat->Prop}(h:NX e l A C v t P U H S)(f:iD Y t.length P U H)(b:kg Y d A B):iD d t.length P U H:=λj c=>by
 obtain⟨k,i,g⟩:=f j c;have a:=h.ins j c;exact⟨k.grew a.pub.inside b,i.grew a.un.inside b,g.grew a.hash.inside b⟩
theorem NX.rehash {s:TypeId}(h:NX e s A C (.slice (some ⟨g,0,none⟩) n c) t P U H (λ_=>False))(m:k<t.length){l:List UInt8}(q:Rd A r l)(i:bk (λk=>k=g) r):
  NX e s (A.setCell ⟨g,k*5+4,none⟩ r) C (.slice (some ⟨g,0,none⟩) n c) (t.set k ⟨(ats t k).kind,(ats t k).name,(ats t k).pub,(ats t k).un,l⟩) (upd P k (P k)) (upd U k (U k)) (upd H k r) (λ_=>False):=by
 have b:=h.ins k m;have d:=h.apv k m;exact h.put (w2:=A) rfl k m ⟨(ats t k).kind,(ats t k).name,(ats t k).pub,(ats t k).un,l⟩ (P k) (U k) r (λj u _=>h.ins j u) (λ_=>False) (λj _ _ h=>h.elim) (λj _ _ h=>h.elim) ⟨b.pub,b.un,q⟩
  ⟨d.1,d.2.1,λD o x n' B e y w=>i x n' B e y (by cases o;exact w)⟩ (λh=>h.elim) (λh=>h.elim) (λj _ _ h=>h.elim) (λh=>h.elim) 4 [r] (by simp) (λz p=>by
   simp at p;subst p;obtain⟨a,c,e,_⟩:=q.shape;rw[e];rfl) (λf v=>by
   match f,v with
   | 0,_=>rfl
   | 1,_=>rfl
   | 2,_=>rfl
   | 3,_=>rfl
   | 4,_=>rfl)
theorem iD.upd (h:iD Z N P U H)(b:bk Z r)(c:k<N):iD Z N (upd P k (P k)) (upd U k (U k)) (upd H k r):=λj a=>by
 by_cases e:j=k
 ·subst e
  rw[dd,dd,dd];exact⟨(h j a).1,(h j a).2.1,b⟩
 ·rw[cY _ _ e,cY _ _ e,cY _ _ e]
  exact h j a
def bO (w:World)(g:Nat):Prop:=∃ cs t fr,w.heap[g]?=some (.cells cs t fr)
theorem bO.lt (h:bO w g):g<w.heap.size:=by
 obtain⟨_,_,_,h⟩:=h;exact(Iz.1 h).1
theorem bO.of_cell {a:Addr}(h:w.cell? a=some v):bO w a.block:=by
 unfold World.cell? at h;split at h
 ·next c t fr e=>exact⟨c,t,fr,e⟩
 ·cases h
theorem zy {a:Array MapEntry}(h:w.heap[g]?=some (.map a c)):¬bO w g:=by
 rintro⟨_,_,_,e⟩;rw[h] at e;cases e
theorem Rd.solid {l:List UInt8}(h:Rd w v l):∀ x n c,v=.slice (some x) n c->0<n->bO w x.block:=λx n c e f=>by
 obtain⟨m,k,a,j,i,g,d⟩:=h;rw[e] at a;simp only[IG] at a;obtain⟨rfl,rfl,rfl⟩:=a;have b:=bO.of_cell (d x rfl 0 f);rwa [eN] at b
theorem RI.solid (h:RI w v l):∀ x n c,v=.slice (some x) n c->0<n->bO w x.block:=λx n c e f=>by
 obtain⟨m,k,a,j,i,g,d⟩:=h;rw[e] at a;simp only[IG] at a;obtain⟨rfl,rfl,rfl⟩:=a;have b:=bO.of_cell (d x rfl 0 f);rwa [eN] at b
theorem bk.solid {b:Nat->Prop}(h:bk Z v)(f:∀ x n c,v=.slice (some x) n c->0<n->bO w x.block)(d:∀ g,b g->Z g\/¬bO w g):bk b v:=λx n c e a j=>
 (d _ j).elim (h x n c e a) λi=>i (f x n c e a)
structure Sh (α:Type) where
 mk ::
 k:Nat
 pos:0<k
 R:(Nat->Prop)->World->List Value->α->Prop
 len:∀ {Z w vs x},R Z w vs x->vs.length=k
 one:∀ {Z w vs x},R Z w vs x->∀ z∈vs,z.oneCell'=true
 solid:∀ {Z Z' w vs x},R Z w vs x->(∀ g,Z' g->Z g\/¬bO w g)->R Z' w vs x
 step:∀ {Z w w' vs x},R Z w vs x->aj Z w w'->R Z w' vs x
theorem Sh.mono (S:Sh α){x:α}(h:S.R Z w vs x)(b:∀ g,a g->Z g):S.R a w vs x:=S.solid h λg c=>.inl (b g c)
theorem Sh.fresh (S:Sh α){x:α}(h:S.R Z w vs x):S.R (λg=>Z g\/w.heap.size<=g) w vs x:=
 S.solid h λg a=>a.imp id λa b=>by have:=b.lt;omega
def noB:Nat->Prop:=λ_=>False
theorem Kp.step (h:Kp w w'):aj noB w w':=⟨h.os,h.tape,h.output,h.size,λk a _=>h.block k a⟩
theorem Sh.kp (S:Sh α){x:α}(h:S.R noB w vs x)(k:Kp w w'):S.R noB w' vs x:=S.step h k.step
def SE {α:Type}(S:Sh α)(Z:Nat->Prop)(w:World)(v:Value)(t:List α):Prop:=
 ∃ a c,v=.slice a t.length c/\t.length<=c/\c<=maxLen/\(a=none->c=0) /\
  (0<t.length->∃ b off,a=some ⟨b,off,none⟩/\b<w.heap.size/\∀ i x,t[i]?=some x->∃ vs,w.rangeAt b (off+i*S.k) vs/\S.R Z w vs x)
def SZ {α:Type}(S:Sh α)(Z:Nat->Prop)(w:World)(v:Value)(t:List α):Prop:=SE S Z w v t/\bk Z v
def aH {α:Type}(S:Sh α)(w:World)(v:Value)(t:List α):Prop:=SE S noB w v t
section
variable {α : Type} {S : Sh α}
theorem bk.none (v:Value):bk noB v:=λ_ _ _ _ _ h=>h
theorem aH.sz {t:List α}(h:aH S w v t):SZ S noB w v t:=⟨h,bk.none v⟩
theorem SE.shape {t:List α}(h:SE S Z w v t):∃ a c,v=.slice a t.length c/\t.length<=c/\c<=maxLen:=by
 obtain⟨a,c,e,d,b,_⟩:=h;exact⟨a,c,e,d,b⟩
theorem SE.sl {t:List α}(h:SE S Z w v t):∃ a n c,v=.slice a n c:=by
 obtain⟨a,c,e,_⟩:=h;exact⟨_,_,_,e⟩
theorem SE.nil (Z:Nat->Prop)(w:World):SE S Z w (.slice none 0 0) []:=⟨none,0,rfl,IB _,IO _,λ_=>rfl,λh=>absurd h (by simp)⟩
theorem aH.nil (w:World):aH S w (.slice none 0 0) []:=SE.nil _ w
theorem SE.at {a:Option Addr}{t:List α}(h:SE S Z w (.slice a n c) t)(f:0<n):
  ∃ b d,a=some ⟨b,d,none⟩/\b<w.heap.size/\∀ i x,t[i]?=some x->∃ vs,w.rangeAt b (d+i*S.k) vs/\S.R Z w vs x:=by
 obtain⟨p,o,e,m,l,j,g⟩:=h;simp only[IG] at e;obtain⟨rfl,rfl,rfl⟩:=e;exact g f
theorem SE.mono {t:List α}(h:SE S Z w v t)(l:∀ g,f g->Z g):SE S f w v t:=by
 obtain⟨a,c,e,u,s,r,q⟩:=h;refine⟨a,c,e,u,s,r,λy=>?_⟩;obtain⟨b,d,p,o,n⟩:=q y;refine⟨b,d,p,o,λi x m=>?_⟩;obtain⟨vs,k,j⟩:=n i x m;exact⟨vs,k,S.mono j l⟩
theorem SE.solidly {t:List α}(h:SE S Z w v t)(l:∀ g,f g->Z g\/¬bO w g):SE S f w v t:=by
 obtain⟨a,c,e,u,s,r,q⟩:=h;refine⟨a,c,e,u,s,r,λy=>?_⟩;obtain⟨b,d,p,o,n⟩:=q y;refine⟨b,d,p,o,λi x m=>?_⟩;obtain⟨vs,k,j⟩:=n i x m;exact⟨vs,k,S.solid j l⟩
theorem SZ.mono {b:Nat->Prop}{t:List α}(h:SZ S Z w v t)(a:∀ g,b g->Z g):SZ S b w v t:=⟨h.1.mono a,h.2.mono a⟩
theorem SE.inside {t:List α}(h:SE S Z w v t):∀ x n c,v=.slice (some x) n c->0<n->x.block<w.heap.size:=λx n c e j=>by
 obtain⟨p,o,a,m,l,k,i⟩:=h;rw[e] at a;simp only[IG] at a;obtain⟨rfl,rfl,rfl⟩:=a;obtain⟨b,f,d,g,_⟩:=i j;simp only[Jo] at d;subst d;exact g
theorem SE.sol {t:List α}(h:SE S Z w v t):∀ x n c,v=.slice (some x) n c->0<n->bO w x.block:=λx n c e f=>by
 obtain⟨y,u,a,s,r,q,l⟩:=h;rw[e] at a;simp only[IG] at a;obtain⟨rfl,rfl,rfl⟩:=a;obtain⟨b,j,d,p,k⟩:=l f;simp only[Jo] at d;subst d;obtain⟨vs,i,g⟩:=k 0 _ (Iy f);have o:=S.len g;have m:=S.pos;have:=bO.of_cell (i 0 _ (Iy (by omega)));exact this
theorem SZ.solidly {b:Nat->Prop}{t:List α}(h:SZ S Z w v t)(a:∀ g,b g->Z g\/¬bO w g):SZ S b w v t:=⟨h.1.solidly a,h.2.solid h.1.sol a⟩
theorem SZ.step {t:List α}(h:SZ S Z w v t)(f:aj Z w w'):SZ S Z w' v t:=by
 obtain⟨⟨a,c,e,B,A,y,u⟩,k⟩:=h;refine⟨⟨a,c,e,B,A,y,λm=>?_⟩,k⟩;obtain⟨b,d,l,s,r⟩:=u m;refine⟨b,d,l,II s f.size,λi x p=>?_⟩;obtain⟨vs,o,n⟩:=r i x p;subst l;have g:¬Z b:=k _ _ _ e m;exact⟨vs,λj z q=>f.cell (o j z q) g,S.step n f⟩
theorem aH.kp {t:List α}(h:aH S w v t)(k:Kp w w'):aH S w' v t:=(SZ.step (Z:=noB) ⟨h,bk.none v⟩ k.step).1
theorem SE.pre {a:Option Addr}{t:List α}(h:SE S Z w (.slice a n c) t)(k:Nat)(s:k<=n):SE S Z w (.slice a k c) (t.take k):=by
 obtain⟨y,v,e,u,q,p,o⟩:=h;simp only[IG] at e;obtain⟨rfl,rfl,rfl⟩:=e;have g:(t.take k).length=k:=by rw[Ja];omega
 refine⟨a,c,by rw[g],by omega,q,p,λr=>?_⟩;rw[g] at r;obtain⟨b,f,m,l,j⟩:=o (by omega);refine⟨b,f,m,l,λi x d=>j i x ?_⟩;rw[List.getElem?_take] at d;split at d
 ·exact d
 ·cases d
def GZ (S:Sh α)(e:TypeId)(Z:Nat->Prop)(w:World)(B:Nat)(v:Value)(t:List α):Prop:=
 ∃ us:List Value,w.ownsRow B e S.k v t.length us/\(∀ z∈us,z.oneCell'=true) /\
  ∀ i x,t[i]?=some x->∃ vs,(∀ f,f<S.k->us[i*S.k+f]?=vs[f]?)/\S.R (λg=>some g=v.ownBlock\/Z g) w vs x
section
variable {Z : Nat -> Prop}
theorem GZ.lt {t:List α}(h:GZ S e Z w B v t):∀ k,v.ownBlock=some k->B<=k/\k<w.heap.size:=by
 obtain⟨us,b,_⟩:=h;exact λk a=>Jw b k a
theorem GZ.kp {t:List α}(h:GZ S e Z w B v t)(k:Kp w w'):GZ S e Z w' B v t:=by
 obtain⟨us,g,f,d⟩:=h;refine⟨us,nT g k,f,λi x a=>?_⟩;obtain⟨vs,l,j⟩:=d i x a;exact⟨vs,l,S.step j ⟨k.os,k.tape,k.output,k.size,λb c _=>k.block b c⟩⟩
theorem GZ.mono {t:List α}(h:GZ S e Z w B v t)(k:C<=B):GZ S e Z w C v t:=by
 obtain⟨us,a,i,f⟩:=h;refine⟨us,⟨a.1,?_⟩,i,f⟩;rcases a.2 with d|⟨g,c,b,j,a,rest⟩
 ·exact .inl d
 ·exact .inr ⟨g,c,b,j,by omega,rest⟩
theorem GZ.solidly {t:List α}(h:GZ S e Z w B v t)(b:∀ g,a g->some g=v.ownBlock\/Z g\/¬bO w g):GZ S e a w B v t:=by
 obtain⟨us,k,j,f⟩:=h;refine⟨us,k,j,λi x c=>?_⟩;obtain⟨vs,m,l⟩:=f i x c;exact⟨vs,m,S.solid l λg d=>d.elim (λh=>.inl (.inl h)) λh=>(b g h).elim (λh=>.inl (.inl h)) λh=>h.imp .inr id⟩
theorem GZ.step {t:List α}(h:GZ S e Z w B v t)(f:aj Y w w')(p:∀ g,Y g->Z g\/¬bO w g)(m:∀ g,v.ownBlock=some g->¬Y g):GZ S e Z w' B v t:=by
 have s:GZ S e (λg=>Z g\/Y g) w B v t:=h.solidly λg b=>b.elim (λh=>.inr (.inl h)) λh=>(p g h).elim (λh=>.inr (.inl h)) λh=>.inr (.inr h)
 obtain⟨us,j,r,q⟩:=s;refine⟨us,⟨j.1,?_⟩,r,λi x l=>?_⟩
 ·rcases j.2 with n|⟨g,d,c,k,o,a,rest⟩
  ·exact .inl n
  ·exact .inr ⟨g,d,c,k,o,(f.block g (Iz.1 a).1 (m g (by rw[k];rfl))).trans a,rest⟩
 ·obtain⟨vs,y,u⟩:=q i x l
  exact⟨vs,y,S.mono (S.step u (f.mono λg b=>.inr (.inr b))) λg b=>b.imp id .inl⟩
theorem GZ.form {t:List α}(h:GZ S e Z w B v t)(A:0<t.length):
  ∃ g c,v=.slice (some ⟨g,0,none⟩) t.length c/\B<=g/\g<w.heap.size/\t.length<=c/\c<=maxLen /\
   ∀ i x,t[i]?=some x->∃ vs,w.rangeAt g (i*S.k) vs/\S.R (λb=>some b=v.ownBlock\/Z b) w vs x:=by
 obtain⟨us,m,y,s⟩:=h;have d:=λk q=>Jw m k q
 rcases id m.2 with⟨_,hn⟩|⟨g,cap,cur,rfl,hb,hg,hn,hm,hs,ht⟩
 ·omega
 ·refine⟨g,cap,rfl,hb,(d g rfl).2,hn,hm,λi x n=>?_⟩
  obtain⟨vs,u,p⟩:=s i x n;have l:i<t.length:=(Jk.1 n).1;refine⟨vs,λj z o=>?_,p⟩;have f:j<S.k:=by rw[<-S.len p];exact(Jk.1 o).1
  have a:i*S.k+j<t.length*S.k:=by
   have r:(i+1)*S.k<=t.length*S.k:=JL _ l;rw[Le,Lf] at r;omega
  rw[m.cellAt (i*S.k+j) a,u j f];exact o
theorem GZ.gl {t:List α}(h:GZ S e Z w B v t):aH S w v t:=by
 by_cases o:0<t.length
 ·obtain⟨g,c,rfl,l,d,a,n,m⟩:=h.form o
  refine⟨_,c,rfl,a,n,λh=>(by cases h),λ_=>⟨g,0,rfl,d,λi x k=>?_⟩⟩;rw[JA];obtain⟨vs,j,f⟩:=m i x k;exact⟨vs,j,S.mono f λ_ h=>h.elim⟩
 ·have b:t=[]:=IX (by omega)
  subst b;obtain⟨us,a,_⟩:=h;rcases a.2 with⟨rfl,_⟩|⟨g,cap,cur,rfl,l,d,hn,hm,hs,b⟩
  ·exact aH.nil w
  ·exact⟨_,cap,rfl,hn,hm,λh=>(by cases h),λh=>absurd h (by simp)⟩
theorem GZ.nil (e:TypeId)(w:World)(B:Nat):GZ S e Z w B (.slice none 0 0) []:=⟨[],LZ _ _ _ _,λz a=>by simp at a,λi x b=>by simp at b⟩
theorem GZ.empty (e:TypeId)(w:World):GZ S e Z (w.alloc (.cells #[] e)) w.heap.size (.slice (some ⟨w.heap.size,0,none⟩) 0 0) []:=
 ⟨[],JW w #[] 0 (IB _) (by unfold maxLen;omega) (by simp),λz a=>by simp at a,λi x b=>by simp at b⟩
theorem GZ.len {t:List α}(h:GZ S e Z w B (.slice (some ⟨g,0,none⟩) n c) t):t.length=n:=by
 obtain⟨us,a,_⟩:=h;rcases a.2 with⟨e,_⟩|⟨g',cap,cur,e,_⟩
 ·simp at e
 ·simp only[IG] at e;exact e.2.1.symm
theorem GZ.there {t:List α}(h:GZ S e Z w B (.slice (some ⟨g,0,none⟩) n c) t)(i:Nat)(d:i<t.length):w.there g (i*S.k) S.k:=by
 have b:=h.len;obtain⟨us,a,o,m⟩:=h;subst b;intro j l;refine⟨?_,a.frozenAt _⟩;have f:(i+1)*S.k<=t.length*S.k:=JL _ d;rw[Le,Lf] at f;rw[a.cellAt (i*S.k+j) (by omega),Iy (by rw[a.1];omega)];rfl
theorem GZ.stored {t:List α}(h:GZ S e Z w B (.slice (some ⟨g,0,none⟩) n c) t)(i:Nat)(C:i<t.length)(m:α)(vs:List Value)(a:S.R (λb=>b=g\/Z b) w vs m):
  GZ S e Z (w.setCells g (i*S.k) vs) B (.slice (some ⟨g,0,none⟩) n c) (t.set i m)/\w.grownBy (w.setCells g (i*S.k) vs) (some g):=by
 have r:=h.len;obtain⟨us,A,I,H⟩:=h;subst r;have q:=A.1;have u:=S.len a;have E:(i+1)*S.k<=t.length*S.k:=JL _ C;rw[Le,Lf] at E;obtain⟨F,G,d,N,o⟩:=nV vs (i*S.k) w us A (by rw[q,u];exact E);have y:aj (λb=>some b=(Value.slice (some ⟨g,0,none⟩) t.length c).ownBlock\/Z b) w (w.setCells g (i*S.k) vs):=⟨d.os,d.tape,d.output,d.size,λk j r=>d.block k j (λe=>r (.inl e))⟩;refine⟨⟨F,by rw[IW];exact G,λz J=>?_,λk x l=>?_⟩,d⟩
 ·obtain⟨k,j⟩:=List.getElem?_of_mem J
  rw[o] at j;split at j
  ·exact S.one a z (JT j)
  ·exact I z (JT j)
 ·rw[Kh] at l
  by_cases v:i=k
  ·subst v
   rw[if_pos rfl,if_pos C] at l;cases l;refine⟨vs,λf D=>?_,S.step (S.mono a λb K=>K.imp (λe=>by cases e;rfl) id) y⟩;rw[o,u,if_pos ⟨by omega,by omega⟩,Lt]
  ·rw[if_neg v] at l
   obtain⟨p,M,L⟩:=H k x l;refine⟨p,λf D=>?_,S.step L y⟩;rw[o,u,if_neg,M f D];rintro⟨P,O⟩;rcases Nat.lt_or_gt_of_ne v with s|s
   ·have:=JL S.k (show i+1<=k from s)
    rw[Le,Lf] at this;omega
   ·have:=JL S.k (show k+1<=i from s)
    rw[Le,Lf] at this;omega
end
structure SK (P:Program)(t e:TypeId)(k:Nat):Prop where
 mk ::
 ht:P.underlying t=some (.slice e)
 hi:∃ i z,P.info? e=some i/\i.zero=some z/\i.size=k/\i.bytes<=128/\z.cells.size=k
theorem SK.mk' {P:Program}{t:TypeId}{z:Value}{b:Nat}(g:P.underlying t=some (.slice e))(h:(P.info? e).map (λi=>(i.zero,i.size,i.bytes))=some (some z,k,b))(l:b<=128)(f:z.cells.size=k):SK P t e k:=by
 obtain⟨i,j,c,a,d⟩:=info_parts h;exact⟨g,i,z,j,c,a,by omega,f⟩
theorem SE.flat {b a:Nat}{t:List α}(h:∀ i x,t[i]?=some x->∃ vs,w.rangeAt b (a+i*S.k) vs/\S.R Z w vs x):
  ∃ us:List Value,us.length=t.length*S.k/\(∀ z∈us,z.oneCell'=true)/\(∀ j z,us[j]?=some z->w.cell? ⟨b,a+j,none⟩=some z) /\
   ∀ i x,t[i]?=some x->∃ vs,(∀ f,f<S.k->us[i*S.k+f]?=vs[f]?)/\S.R Z w vs x:=by
 have key:∀ n,n<=t.length->∃ us:List Value,us.length=n*S.k/\(∀ z∈us,z.oneCell'=true)/\(∀ j z,us[j]?=some z->w.cell? ⟨b,a+j,none⟩=some z) /\
   ∀ i x,i<n->t[i]?=some x->∃ vs,(∀ f,f<S.k->us[i*S.k+f]?=vs[f]?)/\S.R Z w vs x:=by
  intro n;induction n with
  | zero=>exact λ_=>⟨[],by simp,λz e=>by simp at e,λj z l=>by simp at l,λi x v=>by omega⟩
  | succ n ih=>
   intro E;obtain⟨us,d,r,q,p⟩:=ih (by omega);obtain⟨vs,y,s⟩:=h n t[n] (Iy (by omega));have B:=S.len s;refine⟨us++vs,by rw[IE,d,B,Le,Lf],λz e=>?_,λj z l=>?_,λi x v g=>?_⟩
   ·rcases Jy.1 e with e|e
    ·exact r z e
    ·exact S.one s z e
   ·by_cases m:j<us.length
    ·rw[Jh m] at l
     exact q j z l
    ·rw[Jd (by omega)] at l
     have:=y _ z l;rw[d] at this m;rwa [show a+n*S.k+(j - n*S.k)=a+j by omega] at this
   ·by_cases c:i<n
    ·obtain⟨o,D,C⟩:=p i x c g
     refine⟨o,λf u=>?_,C⟩;have A:(i+1)*S.k<=n*S.k:=JL _ c;rw[Le,Lf] at A;rw[Jh (by rw[d];omega)];exact D f u
    ·have:i=n:=by omega
     subst this;rw[Iy (by omega)] at g;cases g;refine⟨vs,λf u=>?_,s⟩;rw[Jd (by rw[d];omega),d,Lt]
 obtain⟨us,d,r,q,p⟩:=key t.length (IB _);exact⟨us,d,r,q,λi x g=>p i x (Jk.1 g).1 g⟩
theorem Sh.moved {c:Value}{x:α}(h:S.R (λg=>some g=v.ownBlock\/Z g) w vs x)(b:w.grownBy w' v.ownBlock)(a:c.ownBlock=v.ownBlock\/c.ownBlock=some w.heap.size):
  S.R (λg=>some g=c.ownBlock\/Z g) w' vs x:=by
 have i:=S.fresh h;have f:S.R (λg=>(some g=v.ownBlock\/Z g)\/w.heap.size<=g) w' vs x:=S.step i ⟨b.os,b.tape,b.output,b.size,λk a d=>b.block k a (λe=>d (.inl (.inl e)))⟩;refine S.mono f λg e=>?_
 rcases e with e|e
 ·rcases a with a|a
  ·exact .inl (.inl (by rw[<-a];exact e))
  ·rw[a] at e
   simp only[Jo] at e;exact .inr (by omega)
 ·exact .inl (.inr e)
theorem gQ {P:Program}{t:TypeId}(K:SK P t e S.k){H:Array Oper}{rest:List Oper}{o:Oper}{a:Act}{Q:Exit->Act->World->Prop}(D:o.guard=none)(s x:Operand)
  (ho:o.op=.call { callee:=.builtin .append,args:=#[s,x],argTypes:=#[t,t] })
  (B:Nat) (v:Value) (d:List α) (Y:a.eval s=v) (J:GZ S e Z w B v d) (u:Value) (r:List α) (X:a.eval x=u) (hu:SE S (λg=>some g=v.ownBlock\/Z g) w u r) (M:d.length+r.length<=1000000) (n:B<=w.heap.size)
  (h:∀ p w',GZ S e Z w' B p (d++r)->w.grownBy w' v.ownBlock->(p.ownBlock=v.ownBlock\/p.ownBlock=some w.heap.size)->wpList P H Q rest (a.put o.dst p) w'):wpList P H Q (o :: rest) a w:=by
 obtain⟨i,z,hi,hz,l,ae,I⟩:=K.hi;obtain⟨us,R,h2,h3⟩:=J;obtain⟨ad,c,rfl,hc,hm,L,E⟩:=hu;have O:(d.length+r.length)*i.bytes<=140737488355328:=by
  have:=Kc M ae;omega
 by_cases h0:0<r.length
 ·obtain⟨b,V,rfl,_,hn⟩:=E h0
  obtain⟨q,n1,n2,n3,n4⟩:=SE.flat hn;refine wpList_append_own_at w D s x t ho B e i z S.k i.bytes K.ht hi hz l rfl I S.pos v d.length us Y R ⟨b,V,none⟩ r.length c q X n1 (λj y m=>?_) n2 (by unfold maxLen;omega) O n
   (λp w' W G _ F=>h p w' ⟨us++q,by rw[IE];exact W,λy A=>?_,λj y m=>?_⟩ G F)
  ·rw[Addr.add_mid]
   exact n3 j y m
  ·rcases Jy.1 A with A|A
   ·exact h2 y A
   ·exact n2 y A
  ·have C:=R.1
   by_cases N:j<d.length
   ·rw[Jh N] at m
    obtain⟨vs,U,T⟩:=h3 j y m;refine⟨vs,λf hf=>?_,Sh.moved T G F⟩;have h5:(j+1)*S.k<=d.length*S.k:=JL _ N;rw[Le,Lf] at h5;rw[Jh (by rw[C];omega)];exact U f hf
   ·rw[Jd (by omega)] at m
    obtain⟨vs,U,T⟩:=n4 (j - d.length) y m;refine⟨vs,λf hf=>?_,Sh.moved T G F⟩;have h5:d.length*S.k<=j*S.k:=JL _ (by omega);rw[Jd (by rw[C];omega),C,<-U f hf,Nat.sub_mul];congr 1
    omega
 ·have aa:r=[]:=IX (by omega)
  subst aa;cases ad with
  | none=>
   have ab:=L rfl;subst ab;refine wpList_append_own_none D s x t ho B e i S.k K.ht hi v d.length us Y R X ?_;exact h v w ⟨us,by simpa using R,h2,by simpa using h3⟩ ⟨rfl,rfl,rfl,IB _,λ_ _ _=>rfl⟩ (.inl rfl)
  | some ad=>
   refine wpList_append_own_at w D s x t ho B e i z S.k i.bytes K.ht hi hz l rfl I S.pos v d.length us Y R ad 0 c [] X (by simp) (λj y m=>by simp at m) (λy A=>by simp at A) (by unfold maxLen;omega) (by simpa using O) n
    (λp w' W G _ F=>h p w' ⟨us,by simpa using W,h2,λj y m=>?_⟩ G F)
   rw[JV] at m;obtain⟨vs,U,T⟩:=h3 j y m;exact⟨vs,U,Sh.moved T G F⟩
end

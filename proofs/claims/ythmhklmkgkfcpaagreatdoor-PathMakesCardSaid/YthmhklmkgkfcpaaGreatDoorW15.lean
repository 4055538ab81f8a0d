import Derived.Test.YthmhklmkgkfcpaaGreatDoorW13
import Derived.Test.YthmhklmkgkfcpaaGreatDoorW14
import Derived.Lib.ConvBytes
import Derived.Lib.SlicesCompact
import Derived.Shelf.Spec.SlicesInsertGrow
import Derived.Shelf.Spec.SlicesInsert
import Derived.Shelf.Strconv.Itoa0
import Derived.Shelf.Sort.Plain
import Derived.Ground.Names2Prog
import Derived.Shelf.Slices.SearchI
import Derived.Shelf.Slices.In.SortNone
import Derived.Shelf.Bytes.SlEqualAll
import Derived.Shelf.Bytes.Small
import Derived.Sort.OwnSortedInts
import Derived.Lib.OwnBridge
set_option linter.all false
set_option maxHeartbeats 8000000
set_option maxRecDepth 100000
namespace Go.Proofs.YthmhklmkgkfcpaaGreatDoor
open Go.Proofs.Tryz Go.RowKit
variable {A w w':World}{B C N b c g j k n:Nat}{H P U:Nat->Value}{S S' Y Z:Nat->Prop}{T e:TypeId}{cs:Array Value}{l:List UInt8}{r:Option Nat}{t:List Nod}{v:Value}
def Bx (w:World)(b:Nat)(T:TypeId)(cs:Array Value):Prop:=w.heap[b]?=some (.cells cs T (0,0))
theorem Bx.kp (h:Bx w b T cs)(k:Kp w w'):Bx w' b T cs:=
 (Below.block k b (IX.1 h).1).trans h
theorem Bx.cell (h:Bx w b T cs)(j:Nat):w.cell? ⟨b,j,none⟩=cs[j]?:=cell_of_row w b j cs T (0,0) h
theorem Bx.frozen (h:Bx w b T cs)(j:Nat):w.frozen? ⟨b,j,none⟩=false:=frozen_of_row w b j cs T h
theorem Bx.new (w:World)(T:TypeId)(cs:Array Value):Bx (w.alloc (.cells cs T)) w.heap.size T cs:=heap_alloc_new w _
theorem Bx.set (h:Bx w b T cs)(j:Nat)(v:Value):Bx (w.setCell ⟨b,j,none⟩ v) b T (cs.setIfInBounds j v):=heap_setCell_same w b j cs T v h
theorem Kp.setNew (h:Kp w w')(a:w.heap.size<=b)(v:Value):Kp w (w'.setCell ⟨b,j,none⟩ v):=Below.setCell h a v
theorem az (h:Rd w v l):∃ a n c,v=.slice a n c:=by
 obtain⟨a,c,e,_⟩:=h.shape;exact⟨_,_,_,e⟩
theorem Bx.setCells {b:Nat}{T:TypeId}:∀ (vs:List Value) (o:Nat) (w:World) (cs:Array Value),Bx w b T cs->o+vs.length<=cs.size ->
  ∃ cs':Array Value,Bx (w.setCells b o vs) b T cs'/\cs'.size=cs.size/\∀ k,cs'[k]?=if o<=k/\k<o+vs.length then vs[k - o]? else cs[k]?
 | [],o,w,cs,h,_=>⟨cs,h,rfl,λk=>by rw[if_neg (by simp only[Jt];omega)]⟩
 | v :: vs,o,w,cs,h,hl=>by
  simp only[Jo] at hl
  obtain⟨cs',h2,h3,h4⟩:=Bx.setCells vs (o+1) (w.setCell ⟨b,o,none⟩ v) (cs.setIfInBounds o v) (h.set o v) (by rw[Mq];omega)
  refine⟨cs',h2,by rw[h3,Mq],λk=>?_⟩
  rw[h4 k]
  simp only[Jo]
  by_cases h5:o+1<=k/\k<o+1+vs.length
  ·rw[if_pos h5,if_pos ⟨by omega,by omega⟩,show k - o=(k - (o+1))+1 by omega,Jk]
  ·rw[if_neg h5,Array.getElem?_setIfInBounds]
   by_cases h6:o=k
   ·subst h6
    rw[if_pos rfl,if_pos (by omega),if_pos ⟨by omega,by omega⟩,Lx]
    rfl
   ·rw[if_neg h6,if_neg (by omega)]
theorem Bx.fill (h:Bx w b T cs)(vs:Array Value)(f:vs.size=cs.size):Bx (w.setCells b 0 vs.toList) b T vs:=by
 obtain⟨a,d,g,c⟩:=Bx.setCells vs.toList 0 w cs h (by rw[Mn];omega);have e:a=vs:=by
  refine Array.ext_getElem? λk=>?_
  rw[c k,Mn];split
  ·rw[MR,MB]
  ·next hk=>rw[My (by omega),My (by omega)]
 exact e▸d
theorem Bx.there (h:Bx w b T cs):w.there b 0 cs.size:=λj a=>by
 rw[JS,h.cell j];exact⟨by simp[a],h.frozen j⟩
theorem Kp.setCells (h:Kp w w')(a:w.heap.size<=b):∀ (vs:List Value) (o:Nat),Kp w (w'.setCells b o vs):=by
 intro vs
 induction vs generalizing w' with
 | nil=>intro o;exact h
 | cons v vs ih=>intro o;exact ih (h.setNew a v) (o+1)
def upd (f:Nat->Value)(i:Nat)(x:Value):Nat->Value:=λj=>if j=i then x else f j
theorem dy (f:Nat->Value)(i:Nat)(x:Value):upd f i x i=x:=if_pos rfl
theorem dm (f:Nat->Value){i:Nat}(x:Value)(h:j≠i):upd f i x j=f j:=if_neg h
structure NX (e ei:TypeId)(w:World)(B:Nat)(v:Value)(t:List Nod)(P U H:Nat->Value)(S:Nat->Prop):Prop where
 mk ::
 row:∃ us:List Value,w.ownsRow B e 5 v t.length us/\(∀ z∈us,z.oneCell'=true)/\∀ i,i<t.length->∀ f,f<5->us[i*5+f]?=(bT (ats t i) (P i) (U i) (H i))[f]?
 ins:∀ i,i<t.length->NIn w (ats t i) (P i) (U i) (H i)
 apv:∀ i,i<t.length->aQ v (P i)/\aQ v (U i)/\aQ v (H i)
 own:∀ i,i<t.length->S i->OI ei w B (U i) (ats t i).un
 sep:∀ i,i<t.length->S i->∀ g,(U i).ownBlock=some g->v.ownBlock≠some g/\∀ j,j<t.length->aQ (U i) (P j)/\aQ (U i) (H j)/\(i≠j->aQ (U i) (U j))
 inj:∀ i j,i<t.length->j<t.length->S i->S j->∀ g,(U i).ownBlock=some g->(U j).ownBlock=some g->i=j
theorem NX.kp {b:TypeId}(h:NX e b w B v t P U H S)(k:Kp w w'):NX e b w' B v t P U H S:=by
 obtain⟨us,g,f,d⟩:=h.row;exact⟨⟨us,oF g k,f,d⟩,λi a=>(h.ins i a).kp k,h.apv,λi a c=>(h.own i a c).kp k,h.sep,h.inj⟩
theorem NX.no {f:TypeId}(h:NX e f w B v t P U H S):NO e w B v t:=by
 obtain⟨us,d,c,b⟩:=h.row;exact⟨us,d,c,λi a=>⟨P i,U i,H i,b i a,h.ins i a,h.apv i a⟩⟩
theorem NX.weak {g:TypeId}(h:NX e g w B v t P U H S)(c:∀ i,i<t.length->S' i->S i):NX e g w B v t P U H S':=
 ⟨h.row,h.ins,h.apv,λi b a=>h.own i b (c i b a),λi b a=>h.sep i b (c i b a),λi j b f a d=>h.inj i j b f (c i b a) (c j f d)⟩
theorem fF (w:World)(g o:Nat):∀ (vs:List Value) (o:Nat),w.grownBy (w.setCells g o vs) (some g):=by
 intro vs
 induction vs generalizing w with
 | nil=>exact λo=>⟨rfl,rfl,rfl,Ja _,λ_ _ _=>rfl⟩
 | cons v vs ih=>
  intro o
  have a:=ih (w.setCell ⟨g,o,none⟩ v) (o+1)
  refine⟨a.os,a.tape,a.output,by show w.heap.size<=((w.setCell ⟨g,o,none⟩ v).setCells g (o+1) vs).heap.size;have:=a.size;simpa using this,λk c b=>(a.block k (by simpa using c) b).trans ?_⟩
  exact Below.heap_setCell w _ _ k (λe=>b (by rw[e]))
theorem OI.grown9 {l:List Int}(h:OI e w B v l)(f:w.grownBy w' r)(d:∀ g,v.ownBlock=some g->r≠some g):OI e w' B v l:=by
 refine⟨h.1,?_⟩;rcases h.2 with j|⟨g,c,b,rfl,i,a,rest⟩
 ·exact .inl j
 ·exact .inr ⟨g,c,b,rfl,i,(f.block g (IX.1 a).1 (λe=>d g rfl e.symm)).trans a,rest⟩
theorem NX.put {W:TypeId}{w2:World}(h:NX e W w B (.slice (some ⟨g,0,none⟩) N c) t P U H S)
  (I:w2.heap[g]?=w.heap[g]?) (i:Nat) (hi:i<t.length) (m:Nod) (p u q:Value)
  (af:∀ j,j<t.length->j≠i->NIn w2 (ats t j) (P j) (U j) (H j)) (S':Nat->Prop) (T:∀ j,j<t.length->j≠i->S' j->S j)
  (ad:∀ j,j<t.length->j≠i->S' j->OI W w2 B (U j) (ats t j).un)
  (ah:NIn w2 m p u q) (x:aQ (.slice (some ⟨g,0,none⟩) N c) p/\aQ (.slice (some ⟨g,0,none⟩) N c) u/\aQ (.slice (some ⟨g,0,none⟩) N c) q)
  (ae:S' i->OI W w2 B u m.un)
  (G:S' i->∀ M,u.ownBlock=some M->g≠M/\aQ u p/\aQ u q/\∀ j,j<t.length->j≠i->aQ u (P j)/\aQ u (H j)/\aQ u (U j))
  (ab:∀ j,j<t.length->j≠i->S' j->aQ (U j) p/\aQ (U j) q/\aQ (U j) u)
  (K:S' i->∀ M,u.ownBlock=some M->∀ j,j<t.length->j≠i->S' j->(U j).ownBlock≠some M)
  (o:Nat) (vs:List Value) (ak:o+vs.length<=5) (J:∀ z∈vs,z.oneCell'=true)
  (hc:∀ f,f<5->(bT m p u q)[f]?=if o<=f/\f<o+vs.length then vs[f - o]? else (bT (ats t i) (P i) (U i) (H i))[f]?):
  NX e W (w2.setCells g (i*5+o) vs) B (.slice (some ⟨g,0,none⟩) N c) (t.set i m) (upd P i p) (upd U i u) (upd H i q) S':=by
 obtain⟨us,R,k2,k3⟩:=h.row;have hn:t.length=N:=by
  rcases R.2 with⟨e,_⟩|⟨O,ai,Q,e,_⟩
  ·simp at e
  ·simp only[Ji] at e;exact e.2.1.symm
 subst hn;have aa:=R.1;have Z:w2.ownsRow B e 5 (.slice (some ⟨g,0,none⟩) t.length c) t.length us:=by
  refine⟨R.1,?_⟩;rcases R.2 with D|⟨O,ai,Q,a,hb,hg,rest⟩
  ·exact .inl D
  ·simp only[Ji,JL,Kn,and_true] at a
   obtain⟨rfl,_,rfl⟩:=a;exact .inr ⟨g,c,Q,rfl,hb,I.trans hg,rest⟩
 have aj:i*5+5<=t.length*5:=by omega
 obtain⟨ys,y1,y2,y3,y4⟩:=oH vs (i*5+o) w2 us Z (by rw[aa];omega);have b:(t.set i m).length=t.length:=JA ..;have V:=fF w2 g 0 vs (i*5+o);have C:∀ j,ats (t.set i m) j=if j=i then m else ats t j:=λj=>fc t i m j hi
 have L:∀ j,j<t.length->j≠i->aQ (.slice (some ⟨g,0,none⟩) t.length c) (P j)/\aQ (.slice (some ⟨g,0,none⟩) t.length c) (U j)/\aQ (.slice (some ⟨g,0,none⟩) t.length c) (H j):=λj d _=>h.apv j d
 refine⟨⟨ys,by rw[b];exact y1,λz hz=>?_,λj d f hf=>?_⟩,λj d=>?_,λj d=>?_,λj d r=>?_,λj d r F s=>?_,λj k d n r y F D E=>?_⟩
 ·obtain⟨k,n⟩:=List.getElem?_of_mem hz
  rw[y4] at n;split at n
  ·exact J z (Km n)
  ·exact k2 z (Km n)
 ·rw[b] at d
  rw[y4,C];by_cases a:j=i
  ·subst a
   rw[if_pos rfl,dy,dy,dy,hc f hf];by_cases h5:o<=f/\f<o+vs.length
   ·rw[if_pos ⟨by omega,by omega⟩,if_pos h5,show j*5+f - (j*5+o)=f - o by omega]
   ·rw[if_neg (λhh=>h5 ⟨by omega,by omega⟩),if_neg h5]
    exact k3 j d f hf
  ·rw[if_neg a,dm _ _ a,dm _ _ a,dm _ _ a,if_neg (λhh=>by omega)]
   exact k3 j d f hf
 ·rw[b] at d
  rw[C];by_cases a:j=i
  ·subst a
   rw[if_pos rfl,dy,dy,dy];exact ah.grown (v:=.slice (some ⟨g,0,none⟩) t.length c) V x.1 x.2.1 x.2.2
  ·rw[if_neg a,dm _ _ a,dm _ _ a,dm _ _ a]
   obtain⟨b1,b2,b3⟩:=L j d a;exact(af j d a).grown (v:=.slice (some ⟨g,0,none⟩) t.length c) V b1 b2 b3
 ·rw[b] at d
  by_cases a:j=i
  ·subst a
   rw[dy,dy,dy];exact x
  ·rw[dm _ _ a,dm _ _ a,dm _ _ a]
   exact L j d a
 ·rw[b] at d
  rw[C];by_cases a:j=i
  ·subst a
   rw[if_pos rfl,dy];exact(ae r).grown9 V (λO A l=>(G r O A).1 (by simpa using l))
  ·rw[if_neg a,dm _ _ a]
   exact(ad j d a r).grown9 V (λO A l=>(h.sep j d (T j d a r) O A).1 l)
 ·rw[b] at d
  by_cases a:j=i
  ·subst a
   rw[dy] at s;obtain⟨Y,X,s3,s4⟩:=G r F s;refine⟨λl=>Y (by simpa [Value.ownBlock] using l),λk n=>?_⟩;rw[b] at n;by_cases l:k=j
   ·subst l
    rw[dy,dy,dy];exact⟨X,s3,λag=>absurd rfl ag⟩
   ·rw[dy,dm _ _ l,dm _ _ l,dm _ _ l]
    obtain⟨a1,a2,a3⟩:=s4 k n l;exact⟨a1,a2,λ_=>a3⟩
  ·rw[dm _ _ a] at s
   obtain⟨Y,X⟩:=h.sep j d (T j d a r) F s;refine⟨Y,λk n=>?_⟩;rw[b] at n;rw[dm _ _ a];by_cases l:k=i
   ·subst l
    rw[dy,dy,dy];obtain⟨a1,a2,a3⟩:=ab j d a r;exact⟨a1,a2,λ_=>a3⟩
   ·rw[dm _ _ l,dm _ _ l,dm _ _ l]
    exact X k n
 ·rw[b] at d n
  by_cases a:j=i
  ·by_cases l:k=i
   ·rw[a,l]
   ·subst a
    rw[dy] at D;rw[dm _ _ l] at E;exact absurd E (K r F D k n l y)
  ·rw[dm _ _ a] at D
   by_cases l:k=i
   ·subst l
    rw[dy] at E;exact absurd D (K y F E j d a r)
   ·rw[dm _ _ l] at E
    exact h.inj j k d n (T j d a r) (T k n l y) F D E
theorem jT {u x:Value}(a:∀ g,x.ownBlock=some g->C<=g)(b:∀ g,u.ownBlock=some g->g<C):aQ u x:=λg d y n c e j f=>by
 have i:=b g d;have h:=a y.block (by rw[e];rfl);omega
theorem NX.len {b:TypeId}(h:NX e b w B (.slice (some ⟨g,0,none⟩) N c) t P U H S):t.length=N:=by
 obtain⟨us,a,_⟩:=h.row;rcases a.2 with⟨e,_⟩|⟨g',cap,cur,e,_⟩
 ·simp at e
 ·simp only[Ji] at e;exact e.2.1.symm
theorem qD (t:List Nod)(i:Nat)(a:i<t.length):t.set i (ats t i)=t:=by
 rw[jS a];exact LI a
theorem NX.clonePub {x E:TypeId}{q:World}(h:NX e x w B (.slice (some ⟨g,0,none⟩) N c) t P U H S)(K:Kp w q)(i:k<t.length)(u:¬S k)
  {p:Value} (r:Ow E q C p (ats t k).pub) (D:w.heap.size<=C) (y:g<w.heap.size):
  NX e x (q.setCells g (k*5+2) [p]) B (.slice (some ⟨g,0,none⟩) N c) t (upd P k p) (upd U k (U k)) (upd H k (H k)) S:=by
 have o:=h.kp K;have F:aQ (.slice (some ⟨g,0,none⟩) N c) p:=jT (C:=C) r.own_ge (λl b=>by cases b;exact Jh y D);have:=o.put (w2:=q) rfl k i (ats t k) p (U k) (H k) (λj m _=>o.ins j m) S (λj _ _ h=>h) (λj m _ d=>o.own j m d) ⟨r.rd,(o.ins k i).un,(o.ins k i).hash⟩ ⟨F,(o.apv k i).2.1,(o.apv k i).2.2⟩
  (λd=>absurd d u) (λd=>absurd d u) (λj m s d=>?_) (λd=>absurd d u) 2 [p] (by simp) (λz v=>by
   simp at v;subst v;obtain⟨a,n,c,e⟩:=az r.rd;rw[e];rfl) (λf A=>by
   match f,A with
   | 0,_=>rfl
   | 1,_=>rfl
   | 2,_=>rfl
   | 3,_=>rfl
   | 4,_=>rfl)
 ·rwa [qD t k i] at this
 ·refine⟨jT (C:=C) r.own_ge (λl b=>?_),?_,?_⟩
  ·have:=((h.own j m d).lt l b).2
   omega
  ·exact λl b=>((h.sep j m d l b).2 k i).2.1 l b
  ·exact λl b=>((h.sep j m d l b).2 k i).2.2 s l b
theorem NX.cloneUn {F:TypeId}{v:World}(h:NX e F w B (.slice (some ⟨g,0,none⟩) N c) t P U H S)(K:Kp w v)(m:k<t.length)(y:∀ j,S' j->j≠k->S j)
  {o:Value} (x:OI F v C o (ats t k).un) (E:w.heap.size<=C) (I:g<w.heap.size) (L:B<=w.heap.size):
  NX e F (v.setCells g (k*5+3) [o]) B (.slice (some ⟨g,0,none⟩) N c) t (upd P k (P k)) (upd U k o) (upd H k (H k)) S':=by
 have u:=h.kp K;have D:=λi b=>(x.lt i b).1
 have M:aQ (.slice (some ⟨g,0,none⟩) N c) o:=jT (C:=C) D (λi b=>by cases b;exact Jh I E);have p:∀ i,o.ownBlock=some i->w.heap.size<=i:=λi b=>Js E (D i b)
 have:=u.put (w2:=v) rfl k m (ats t k) (P k) o (H k) (λj l _=>u.ins j l) S' (λj _ d r=>y j r d) (λj l d r=>u.own j l (y j r d)) ⟨(u.ins k m).pub,x.ri,(u.ins k m).hash⟩ ⟨(u.apv k m).1,M,(u.apv k m).2.2⟩
  (λ_=>x.mono (Js L E)) (λ_ A s=>⟨λe=>by have:=p A s;omega,(h.ins k m).pub.apart p,(h.ins k m).hash.apart p,λj l _=>⟨(h.ins j l).pub.apart p,(h.ins j l).hash.apart p,(h.ins j l).un.apart p⟩⟩)
  (λj l d r=>?_) (λ_ A s j l d r e=>by have Q:=((h.own j l (y j r d)).lt A e).2;have O:=p A s;omega) 3 [o] (by simp) (λz G=>by
   simp at G;subst G;obtain⟨a,n,c,e⟩:=x.ri.sl;rw[e];rfl) (λf J=>by
   match f,J with
   | 0,_=>rfl
   | 1,_=>rfl
   | 2,_=>rfl
   | 3,_=>rfl
   | 4,_=>rfl)
 ·rwa [qD t k m] at this
 ·have q:=y j r d
  refine⟨?_,?_,jT (C:=C) D (λi b=>?_)⟩
  ·exact λi b=>((h.sep j l q i b).2 k m).1 i b
  ·exact λi b=>((h.sep j l q i b).2 k m).2.1 i b
  ·have:=((h.own j l q).lt i b).2
   omega
theorem NX.cloneHash {D J:TypeId}{u:World}(h:NX e D w B (.slice (some ⟨g,0,none⟩) N c) t P U H S)(K:Kp w u)(d:k<t.length)
  {r:Value} (s:Ow J u C r (ats t k).hash) (I:w.heap.size<=C) (F:g<w.heap.size):
  NX e D (u.setCells g (k*5+4) [r]) B (.slice (some ⟨g,0,none⟩) N c) t (upd P k (P k)) (upd U k (U k)) (upd H k r) S:=by
 have p:=h.kp K;have L:aQ (.slice (some ⟨g,0,none⟩) N c) r:=jT (C:=C) s.own_ge (λo b=>by cases b;exact Jh F I);have:=p.put (w2:=u) rfl k d (ats t k) (P k) (U k) r (λj i _=>p.ins j i) S (λj _ _ h=>h) (λj i _ l=>p.own j i l) ⟨(p.ins k d).pub,(p.ins k d).un,s.rd⟩ ⟨(p.apv k d).1,(p.apv k d).2.1,L⟩
  (λl=>p.own k d l) (λl y q=>?_) (λj i m l=>?_) (λl y q j i m x e=>m (h.inj j k i d x l y e q)) 4 [r] (by simp) (λz A=>by
   simp at A;subst A;obtain⟨a,n,c,e⟩:=az s.rd;rw[e];rfl) (λf G=>by
   match f,G with
   | 0,_=>rfl
   | 1,_=>rfl
   | 2,_=>rfl
   | 3,_=>rfl
   | 4,_=>rfl)
 ·rwa [qD t k d] at this
 ·obtain⟨E,v⟩:=h.sep k d l y q
  refine⟨λe=>E (by rw[e];rfl),(v k d).1,jT (C:=C) s.own_ge (λo b=>?_),λj i m=>⟨(v j i).1,(v j i).2.1,(v j i).2.2 (λe=>m e.symm)⟩⟩;have:=((h.own k d l).lt o b).2;omega
 ·refine⟨?_,jT (C:=C) s.own_ge (λo b=>?_),?_⟩
  ·exact λo b=>((h.sep j i l o b).2 k d).1 o b
  ·have:=((h.own j i l).lt o b).2
   omega
  ·exact λo b=>((h.sep j i l o b).2 k d).2.2 m o b
theorem Bx.grown (h:Bx w b T cs)(c:w.grownBy w' r)(a:some b≠r):Bx w' b T cs:=(c.block b (IX.1 h).1 a).trans h
theorem NX.there {b:TypeId}(h:NX e b w B (.slice (some ⟨g,0,none⟩) N c) t P U H S)(i:Nat)(a:i<t.length)(f:Nat)(k:f<5):w.there g (i*5+f) 1:=λj d=>by
 have:=h.no.there i a (f+j) (by omega);rwa [<-Lv] at this
def bq (Z:Nat->Prop)(v:Value):Prop:=∀ x n c,v=.slice (some x) n c->0<n->¬Z x.block
theorem bq.mono {a:Nat->Prop}(h:bq Z v)(b:∀ k,a k->Z k):bq a v:=λx n c e f d=>h x n c e f (b _ d)
theorem bq.nil (Z:Nat->Prop)(a:Option Addr)(c:Nat):bq Z (.slice a 0 c):=λx n d e b=>by
 simp only[Ji] at e;omega
theorem Rd.inside (h:Rd w v l):∀ x n c,v=.slice (some x) n c->0<n->x.block<w.heap.size:=λx n c e f=>by
 obtain⟨m,k,a,j,i,g,d⟩:=h;rw[e] at a;simp only[Ji] at a;obtain⟨rfl,rfl,rfl⟩:=a;have b:=Jz w _ (d x rfl 0 f);rwa [fo] at b
theorem RI.inside {l:List Int}(h:RI w v l):∀ x n c,v=.slice (some x) n c->0<n->x.block<w.heap.size:=λx n c e f=>by
 obtain⟨m,k,a,j,i,g,d⟩:=h;rw[e] at a;simp only[Ji] at a;obtain⟨rfl,rfl,rfl⟩:=a;have b:=Jz w _ (d x rfl 0 f);rwa [fo] at b
theorem Rd.stepF {B:World}(h:Rd A v l)(d:am Y A B)(g:bq Y v):Rd B v l:=by
 obtain⟨a,c,e,o,n,m,k⟩:=h;subst e;refine⟨a,c,rfl,o,n,m,λx b i f=>?_⟩;have j:=k x b i f;subst b;exact d.cell j (by rw[fo];exact g x _ c rfl (by omega))
theorem RI.stepF {B:World}{l:List Int}(h:RI A v l)(f:am Y A B)(g:bq Y v):RI B v l:=by
 obtain⟨a,c,e,o,n,m,k⟩:=h;subst e;refine⟨a,c,rfl,o,n,m,λx b i d=>?_⟩;have j:=k x b i d;subst b;exact f.cell j (by rw[fo];exact g x _ c rfl (by first|omega|(rw[JI] at d ⊢;omega)))
theorem bq.grew {B:World}{f:Nat->Prop}(h:bq Y v)(a:∀ x n c,v=.slice (some x) n c->0<n->x.block<A.heap.size)(i:kU Y f A B):bq f v:=λx n c e d g=>by
 rcases i _ g with b|b
 ·exact h x n c e d b
 ·have:=a x n c e d
  omega
def iY (Z:Nat->Prop)(N:Nat)(P U H:Nat->Value):Prop:=∀ j,j<N->bq Z (P j)/\bq Z (U j)/\bq Z (H j)
theorem NX.stepF {l:TypeId}{B:World}(h:NX e l A C (.slice (some ⟨g,0,none⟩) n c) t P U H (λ_=>False))(a:am Y A B)(p:¬Y g)(q:iY Y t.length P U H):
  NX e l B C (.slice (some ⟨g,0,none⟩) n c) t P U H (λ_=>False):=by
 obtain⟨us,k,u,s⟩:=h.row;refine⟨⟨us,⟨k.1,?_⟩,u,s⟩,λi b=>?_,h.apv,λi b a=>a.elim,λi b a=>a.elim,λi j b z a=>a.elim⟩
 ·rcases k.2 with o|⟨D,y,f,m,r,d,rest⟩
  ·exact .inl o
  ·simp only[Ji,JL,Kn,and_true] at m
   obtain⟨rfl,_,rfl⟩:=m;exact .inr ⟨g,c,f,by simp_all,r,(a.block g (IX.1 d).1 p).trans d,rest⟩
 ·obtain⟨x,w,v⟩:=q i b
  have b:=h.ins i b;exact⟨b.pub.stepF a x,b.un.stepF a w,b.hash.stepF a v⟩
theorem iY.grew {l:TypeId}{B:World}{d:Nat->Prop}(h:NX e l A C v t P U H S)(f:iY Y t.length P U H)(b:kU Y d A B):iY d t.length P U H:=λj c=>by
 obtain⟨k,i,g⟩:=f j c;have a:=h.ins j c;exact⟨k.grew a.pub.inside b,i.grew a.un.inside b,g.grew a.hash.inside b⟩
theorem NX.rehash {s:TypeId}(h:NX e s A C (.slice (some ⟨g,0,none⟩) n c) t P U H (λ_=>False))(m:k<t.length){r:Value}(q:Rd A r l)(i:bq (λk=>k=g) r):
  NX e s (A.setCell ⟨g,k*5+4,none⟩ r) C (.slice (some ⟨g,0,none⟩) n c) (t.set k ⟨(ats t k).kind,(ats t k).name,(ats t k).pub,(ats t k).un,l⟩) (upd P k (P k)) (upd U k (U k)) (upd H k r) (λ_=>False):=by
 have b:=h.ins k m;have d:=h.apv k m;exact h.put (w2:=A) rfl k m ⟨(ats t k).kind,(ats t k).name,(ats t k).pub,(ats t k).un,l⟩ (P k) (U k) r (λj u _=>h.ins j u) (λ_=>False) (λj _ _ h=>h.elim) (λj _ _ h=>h.elim) ⟨b.pub,b.un,q⟩
  ⟨d.1,d.2.1,λD o x n' B e y w=>i x n' B e y (by cases o;exact w)⟩ (λh=>h.elim) (λh=>h.elim) (λj _ _ h=>h.elim) (λh=>h.elim) 4 [r] (by simp) (λz p=>by
   simp at p;subst p;obtain⟨a,c,e,_⟩:=q.shape;rw[e];rfl) (λf v=>by
   match f,v with
   | 0,_=>rfl
   | 1,_=>rfl
   | 2,_=>rfl
   | 3,_=>rfl
   | 4,_=>rfl)
theorem iY.upd (h:iY Z N P U H){r:Value}(b:bq Z r)(c:k<N):iY Z N (upd P k (P k)) (upd U k (U k)) (upd H k r):=λj a=>by
 by_cases e:j=k
 ·subst e
  rw[dy,dy,dy];exact⟨(h j a).1,(h j a).2.1,b⟩
 ·rw[dm _ _ e,dm _ _ e,dm _ _ e]
  exact h j a
theorem rj (v:Value)(l:List UInt8)(w:World)(h:Rd w v l)(s:l.length<=1099511627776):
  Calls prog 109 #[v] w λe w'=>∃ u,e=.returned u/\Ow 5 w' w.heap.size u l/\Kp w w':=by
 have U:=aj
 have q:∀ (w:World) (a:Option Addr) (n c n' j:Nat),(binOp .eql 24 (.slice a n c) (.slice none n' j)).run prog w=.ok (.bool a.isNone) w:=λw a n c n' j=>Lib.run_eql_slice_nil w _ _ a n c n' j underlying24
 obtain⟨a,c,rfl,t,r,b,g⟩:=id h
 cases a with
 | none=>
  have i:=b rfl
  have f:l=[]:=Ju (by omega)
  subst f i
  go_enter func109,ntmps109
  go_wp2_with fail
  go_ret
  exact⟨_,rfl,Ow.nil _ _ _,Kp.refl _⟩
 | some a=>
  go_enter func109,ntmps109
  go_wp2_with(at_builtin;refine bz U rfl _ _ rfl w.heap.size _ [] rfl (Ow.lit w _ _ 0 #[] [] (Ja _) rfl (by omega) rfl) _ l rfl (h.kp ((Kp.refl _).alloc _)) ?c1 ?c2 ?_;rotate_right;intro p w2 d o _)
  case c1=>simp;omega
  case c2=>simp
  go_ret
  exact⟨_,rfl,by simpa using d,Kp.grown (v:=.slice (some ⟨w.heap.size,0,none⟩) 0 0) ((Kp.refl _).alloc _) o (by intro k m;simp[Value.ownBlock] at m;omega)⟩
def fv (n:Int):Int:=if 0<=n/\n<=8160 then 0 else 1
def iI (k info:List UInt8)(n:Int):List UInt8:=if 0<=n/\n<=8160 then iH k info n.toNat else []
theorem lB (k info:List UInt8)(h:(n:Int)<=8160):fv n=0/\iI k info n=iH k info n:=by
 have:0<=(n:Int)/\(n:Int)<=8160:=by omega
 simp[fv,iI,this]
theorem kd {n:Int}(k info:List UInt8)(h:n<0\/8160<n):fv n=1/\iI k info n=[]:=by
 have:¬(0<=n/\n<=8160):=by omega
 simp[fv,iI,this]
theorem BT (n:Nat)(p a:Value)(k info:List UInt8)(w0 w:World)(g f d:Nat)(r:Kp w0 w)(o:One 24 w g (.slice (some ⟨d,0,none⟩) 64 64))(m:One 24 w f a)(l:By 5 w d (bR k))(i:Rd w a info)
  (b:k.length<=2000) (c:info.length<=1800) (q:n<=8160):
  Calls prog 169 #[.int .i64 n,.func (.func 198) #[] #[.pointer (some ⟨g,0,none⟩),.pointer (some ⟨f,0,none⟩)]] w λe w'=>(∃ v,e=.returned v/\Ow 5 w' w.heap.size v (iH k info n))/\Kp w w':=
 BC n 255 (dn k info) _ _ (λj=>j<w.heap.size) w (jf k info) (by omega) (by omega) (enters_of func198 (by kernel_rfl) rfl) (λ_ h=>h) (BK g f d a k info w o m l i b c)
theorem BU (d h:Value)(k info:List UInt8)(n:Int)(w:World)(u:Rd w d k)(i:Rd w h info)(c:k.length<=2000)(g:info.length<=1800):
  Calls prog 137 #[d,h,.int .i64 n] w λe w'=>(∃ v,e=.returned (.tuple #[v,.int .i64 (fv n)])/\Ow 5 w' w.heap.size v (iI k info n))/\Kp w w':=by
 obtain⟨A,z,rfl,_,_⟩:=i.shape;by_cases l:n<0
 ·have b:=kd k info (.inl l)
  rw[b.1,b.2];have m:decide (n<0)=true:=by simp[l]
  go_enter func137,ntmps137;go_wp2_with fail;go_ret2;exact⟨⟨_,rfl,Ow.nil _ _ _⟩,Kp.refl _⟩
 ·by_cases j:8160<n
  ·have b:=kd k info (.inr j)
   rw[b.1,b.2];have m:decide (n<0)=false:=by simp;omega
   have y:decide (8160<n)=true:=by simp[j]
   go_enter func137,ntmps137;go_wp2_with fail;go_ret2;exact⟨⟨_,rfl,Ow.nil _ _ _⟩,Kp.refl _⟩
  ·obtain⟨n,rfl⟩:=Jq (show 0<=n by omega)
   have a:=lB k info (show(n:Int)<=8160 by omega);rw[a.1,a.2];have m:decide ((n:Int)<0)=false:=by simp
   have y:decide (8160<(n:Int))=false:=by simp;omega
   clear a;go_enter func137,ntmps137;go_wp2_with fail;refine(BJ d _ k info _ u c ⟨_,_,_,rfl⟩).mono ?_;rintro e p ⟨⟨x,rfl,s,r,q⟩,f⟩;go_wp2_with fail;refine(BT n d _ k info w p _ _ x f s r q (i.kp f) c g (by omega)).mono ?_;rintro e w2 ⟨⟨v,rfl,o⟩,t⟩;go_wp2_with fail;go_ret2;exact⟨⟨_,rfl,o.mono f.size⟩,f.trans t⟩
def dJ:List UInt8:=[77,76,83,32,49,46,48,32]
def de (label ctx:List UInt8)(n:Nat):List UInt8:=be 2 n++aI (dJ++label)++aI ctx
def bU (k label ctx:List UInt8)(n:Int):List UInt8:=iI k (de label ctx n.toNat) n
theorem rk (l a:List UInt8)(n:Nat)(e:l.length<=300)(f:a.length<=1400):(de l a n).length<=1800:=by
 have d:=lj (x:=dJ++l) (by rw[Jc];simp[dJ];omega);have c:=lj (x:=a) (by omega);have i:=jZ (dJ++l).length;have h:=jZ a.length;have b:dJ.length=8:=rfl;have g:(dJ++l).length=8+l.length:=by rw[Jc,b]
 unfold de;rw[Jc,Jc,bl,d,c];omega
theorem uX (w:World)(e:TypeId)(s:ByteArray):Kp w (Lib.bytesWorld w e s):=
 ⟨rfl,rfl,rfl,by rw[Lib.bytesWorld_size];omega,λk a=>Lib.bytesWorld_at_old w e s k a⟩
theorem uY (w:World)(e:TypeId)(s:ByteArray)(h:s.size<=1000000):Rd (Lib.bytesWorld w e s) (.slice (some ⟨w.heap.size,0,none⟩) s.size (grownCap w s.size 0 e)) s.data.toList:=by
 have a:s.data.toList.length=s.size:=rfl;refine⟨_,_,by rw[a],by rw[a];exact grownCap_ge w _ _ _,grownCap_le_maxLen w _ _ _ (by unfold maxLen;omega),λh=>(by cases h),λx b i c=>?_⟩;cases b;have d:(⟨w.heap.size,0,none⟩:Addr).add i=⟨w.heap.size,i,none⟩:=by unfold Addr.add;split <;> simp_all
 rw[d,Lib.bytesWorld_cell w e s i (by omega),IU,IV c];rfl
theorem RL.lits4 {d c b a:Value}{j g f e:List UInt8}(o:Rd w d j)(n:Rd w c g)(m:Rd w b f)(l:Rd w a e):RL (w.alloc (.cells #[d,c,b,a] T)) (.slice (some ⟨w.heap.size,0,none⟩) 4 4) [j,g,f,e]:=
 RL.cons (us:=[c,b,a]) (ls:=[g,f,e]) (Ku w #[d,c,b,a] 4 (Ja _) (by unfold maxLen;omega) rfl) (o.kp ((Kp.refl _).alloc _)) rfl (λi k=>by
  have h:i<3:=by simpa using k
  match i,h with
  | 0,_=>exact n.kp ((Kp.refl _).alloc _)
  | 1,_=>exact m.kp ((Kp.refl _).alloc _)
  | 2,_=>exact l.kp ((Kp.refl _).alloc _))
theorem Rd.sl (h:Rd w v l):∃ a n c,v=.slice a n c:=by
 obtain⟨a,c,e,_⟩:=h.shape;exact⟨_,_,_,e⟩
theorem BV (s:ByteArray)(A:Value)(a:List UInt8)(n:Nat)(w:World)(F:Rd w A a)(E:s.size<=300)(y:a.length<=1400)(T:(n:Int)<=65535):
  Calls prog 136 #[.string s,A,.int .i64 n] w λe w'=>(∃ v,e=.returned (.tuple #[v,.int .i64 0])/\Ow 5 w' w.heap.size v (de s.data.toList a n))/\Kp w w':=by
 obtain⟨ai,Z,rfl,_,_⟩:=F.shape;have c:=Lib.hid (λW=>jY n 2 W (by omega));have l:eE (n:Int) 2:=⟨by omega,by omega,by omega,by have:(256:Int) ^ (2:Int).toNat=65536:=(by decide);omega⟩;have z:=iz l;have o:fs (n:Int) 2=be 2 n:=by rw[z.2];rfl
 have b:=Lib.hid (λW Y=>rg (.slice ai a.length Z) a W Y);have H:=(jU (x:=a) (by omega)).1;have f:s.data.toList.length=s.size:=rfl;have G:=jU (x:=dJ++s.data.toList) (by rw[Jc,f];simp[dJ];omega);have h:eL ((8:Int)+s.size)=0:=by unfold eL;rw[if_neg (by omega)]
 have m:dI ((8:Int)+s.size)++(dJ++s.data.toList)=aI (dJ++s.data.toList):=by
  rw[G.2,Jc,f];unfold dI;rw[if_pos h];congr 2
 have d:=Lib.hid (λW=>re ((8:Int)+s.size) W);rw[z.1,o] at c;rw[H] at b;rw[h] at d;have X:=λW (S:ByteArray)=>Lib.run_convert_string_bytes (P:=prog) W 9 24 5 S underlying9 underlying24 underlying5
 have R:(s.size:Int)<=300:=by omega
 have HO:=Lib.hid (Jb m E);clear l z o H G h m E T;go_enter func136,ntmps136;go_wp2_with(first|(go_at_call 100;refine(c.out _).mono ?_;rintro e w1 ⟨v1,rfl,D,t⟩;obtain⟨a1,M,c1,rfl⟩:=D.rd.sl)|(go_at_call 166;refine(b.out _ (F.kp t)).mono ?_;rintro e w2 ⟨v2,rfl,C,r⟩;obtain⟨a2,L,c2,rfl⟩:=C.rd.sl)|(go_at_call 167;refine(d.out _).mono ?_;rintro e p ⟨v3,rfl,B,q⟩;obtain⟨a3,K,c3,rfl⟩:=B.rd.sl))
 have i:=uX p 5 (⟨#[77,76,83,32,49,46,48,32]⟩++s);have j:(⟨#[77,76,83,32,49,46,48,32]⟩++s:ByteArray).size=8+s.size:=by rw[ByteArray.size_append];rfl
 have u:(⟨#[77,76,83,32,49,46,48,32]⟩++s:ByteArray).data.toList=dJ++s.data.toList:=by rw[ByteArray.data_append,Array.toList_append];rfl
 have k:=uY p 5 (⟨#[77,76,83,32,49,46,48,32]⟩++s) (by rw[j];omega);rw[u,j] at k;have g:([be 2 n,dI ((8:Int)+s.size),dJ++s.data.toList,aI a]:List (List UInt8)).flatten=de s.data.toList a n:=by
  unfold de;rw[<-HO.out.1];simp only[Lh,Mm,Kj,KN]
 have U:=rk s.data.toList a n (by rw[f];omega) y;have V:2<=(de s.data.toList a n).length:=by unfold de;rw[Jc,Jc,bl];omega
 refine(lA _ [be 2 n,dI ((8:Int)+s.size),dJ++s.data.toList,aI a] _ (RL.lits4 (((D.rd.kp r).kp q).kp i) (B.rd.kp i) k ((C.rd.kp q).kp i)) (by rw[g];omega) (by rw[g];omega) (by simp)).mono ?_;rw[g];rintro e I ⟨⟨v5,rfl,J⟩,Q⟩;go_wp2_with fail;go_ret2;have O:Kp w I:=((((t.trans r).trans q).trans i).trans ((Kp.refl _).alloc _)).trans Q;have N:=((((t.trans r).trans q).trans i).trans ((Kp.refl _).alloc (.cells #[.slice a1 M c1,.slice a3 K c3,.slice (some ⟨p.heap.size,0,none⟩) (8+s.size) (grownCap p (8+s.size) 0 5),.slice a2 L c2] 24))).size;exact⟨⟨_,rfl,J.mono N⟩,O⟩
theorem BW (s:ByteArray)(f:Value)(d:List UInt8)(n:Int)(w:World)(k:Rd w f d)(j:n<0\/65535<n)(c:-9223372036854775808<=n/\n<=9223372036854775807):
  Calls prog 136 #[.string s,f,.int .i64 n] w λe w'=>e=.returned (.tuple #[.slice none 0 0,.int .i64 1])/\Kp w w':=by
 obtain⟨u,r,rfl,_,_⟩:=k.shape;have a:=Lib.hid (λW=>jY n 2 W c);have b:¬eE n 2:=λh=>by
  have p:=h.2.2.2;have:(256:Int) ^ (2:Int).toNat=65536:=by decide
  have q:=h.2.2.1;omega
 rw[(li b).1] at a;clear b j c;go_enter func136,ntmps136;go_wp2_with(first|(go_at_call 100;refine(a.out _).mono ?_;rintro e l ⟨m,rfl,g,i⟩;obtain⟨v,o,t,rfl⟩:=g.rd.sl))
 go_ret2;exact⟨rfl,i⟩
theorem pg (g:Value)(s:ByteArray)(h:Value)(k a:List UInt8)(n:Int)(w:World)(z:Rd w g k)(r:Rd w h a)(y:s.size<=300)(f:a.length<=1400)(j:k.length<=2000)(b:-9223372036854775808<=n/\n<=9223372036854775807):
  Calls prog 101 #[g,.string s,h,.int .i64 n] w λe w'=>(∃ v,e=.returned (.tuple #[v,.int .i64 (fv n)])/\Ow 5 w' w.heap.size v (bU k s.data.toList a n))/\Kp w w':=by
 have x:s.data.toList.length=s.size:=rfl;by_cases m:n<0\/65535<n
 ·have d:=kd k (de s.data.toList a n.toNat) (n:=n) (by omega)
  have o:=Lib.hid (BW s h a n w r m b);unfold bU;rw[d.1,d.2];clear m b;go_enter func101,ntmps101;go_wp2_with(first|(go_at_call 136;refine o.out.mono ?_;rintro e t ⟨rfl,c⟩))
  go_ret2;exact⟨⟨_,rfl,Ow.nil _ _ _⟩,c⟩
 ·obtain⟨n,rfl⟩:=Jq (show 0<=n by omega)
  have o:=Lib.hid (BV s h a n w r y f (by omega));have i:=rk s.data.toList a n (by omega) f;have C:Hid (bU k s.data.toList a n=iI k (de s.data.toList a n) n):=rfl;rw[C.out];generalize de s.data.toList a n=I at *;have B:=Lib.hid (λW v5 (l:Rd W g k) (A:Rd W v5 I)=>BU g v5 k I n W l A j i);clear m b;go_enter func101,ntmps101;go_wp2_with(first|(go_at_call 136;refine o.out.mono ?_;rintro e t ⟨⟨E,rfl,q⟩,c⟩;obtain⟨L,G,J,rfl⟩:=q.rd.sl)|(go_at_call 137;refine(B.out _ _ (z.kp c) q.rd).mono ?_;rintro e w2 ⟨⟨D,rfl,p⟩,u⟩;obtain⟨K,F,H,rfl⟩:=p.rd.sl))
  go_ret2;exact⟨⟨_,rfl,p.mono c.size⟩,c.trans u⟩
theorem BX (a:Value)(s:ByteArray)(k:List UInt8)(w:World)(h:Rd w a k)(g:s.size<=300)(b:k.length<=2000):
  Calls prog 140 #[a,.string s] w λe w'=>(∃ v,e=.returned (.tuple #[v,.int .i64 0])/\Ow 5 w' w.heap.size v (iH k (de s.data.toList [] 32) 32))/\Kp w w':=by
 have d:=Lib.hid (pg a s (.slice none 0 0) k [] 32 w h (cU w) g (by simp) b (by omega));have j:fv 32=0:=rfl;have i:bU k s.data.toList [] 32=iH k (de s.data.toList [] 32) 32:=rfl;rw[j,i] at d;go_enter func140,ntmps140;go_wp2_with(first|(go_at_call 101;refine d.out.mono ?_;rintro e l ⟨⟨m,rfl,c⟩,f⟩;obtain⟨p,n,o,rfl⟩:=c.rd.sl))
 go_ret2;exact⟨⟨_,rfl,c⟩,f⟩
theorem Rd.grown (h:Rd w v l)(a:w.grownBy w' r)(c:In (λb=>some b≠r) v):Rd w' v l:=
 h.held (R:=λb=>some b≠r) ⟨a.size,λk e d=>a.block k e d⟩ c
theorem Rd.takes {a:Option Addr}{m:Nat}(h:Rd w (.slice a m c) l)(n:Nat)(k:n<=m):Rd w (.slice a n c) (l.take n):=by
 obtain⟨r,q,e,p,j,g,f⟩:=h;simp only[Ji] at e;obtain⟨rfl,rfl,rfl⟩:=e;have d:(l.take n).length=n:=by rw[Jv];omega
 exact⟨a,c,by rw[d],by omega,j,g,λx b i o=>by rw[f x b i (by omega),LM]⟩
theorem DW (j:Nat):be 1 j=[UInt8.ofNat j]:=by simp[be]
theorem DX (j:Nat)(h:j<=255):IntKind.u8.wrap (j:Int)=((UInt8.ofNat j).toNat:Int):=by
 rw[Kt,Lj];omega
theorem DY (s Q:Value)(k info:List UInt8)(n:Nat)(w:World)(hk:Rd w s k)(V:Rd w Q info)(G:k.length<=2000)(af:info.length<=1800)(hn:n<=8160):
  Calls prog 112 #[s,Q,.int .i64 n] w λe w'=>(∃ v,e=.returned (.tuple #[v,.int .i64 0])/\Rd w' v (iH k info n)/\ba w.heap.size v)/\Kp w w':=by
 have U:=aj;obtain⟨ai,ci,rfl,_,_⟩:=V.shape;have d1:decide ((n:Int)<0)=false:=by simp
 have d2:decide (8160<(n:Int))=false:=by simp;omega
 have HC:=Lib.hid (mU (dn k info) (jf k info));have HS:Hid (∀ j,di (dn k info) (j+1)=di (dn k info) j++dn k info j):=λ_=>rfl
 have HT:=Lib.hid (jf k info);have HP:=Lib.hid (uK k info);have HX:=Lib.hid (uJ k info);have HE:Hid (∀ j,fh k info (j+1)=dn k info j):=λ_=>rfl
 have HF:=Lib.hid (λj h=>qX (dn k info) (jf k info) n j h);go_enter func112,ntmps112;go_wp2_with fail;go_loopw[8,9,10] (λvo vt p wr=>∃ j:Nat,32*j<n+32/\p=.int .i64 ((j:Int)+1)/\Ow 5 wr w.heap.size vo (di (dn k info) j)/\Rd wr vt (fh k info j)/\Kp w wr) (λ_ _ p _=>300 - (intOf p).toNat)
 case atStart=>exact⟨0,by omega,rfl,Ow.nil _ _ _,cU _,Kp.refl _⟩
 case round=>
  obtain⟨j,hj,rfl,d,B,a⟩:=hrel;have aa:=a.size;obtain⟨ao,co,rfl,q1,q2⟩:=d.rd.shape;have q:=HC.out j;unfold maxLen at q2;rw[q] at d q1 ⊢;by_cases ae:32*j<n
  ·have hq:32*(j:Int)<(n:Int):=by omega
   have hp:=HP.out j;have i:=HX.out j;have C:=HS.out j;have X:=HE.out j;have l:=HT.out j;have H:j+1<=255:=by omega
   have Y:=DX (j+1) H;have r:=DW (j+1);rw[Int.natCast_add,Int.natCast_one] at Y;rw[r] at i;obtain⟨x,A⟩:∃ x,UInt8.ofNat (j+1)=x:=⟨_,rfl⟩;rw[A] at Y i;obtain⟨T,Z⟩:∃ T,fh k info j=T:=⟨_,rfl⟩;obtain⟨L,hL⟩:∃ L,di (dn k info) j=L:=⟨_,rfl⟩;rw[Z] at B hp i;rw[hL] at d q C;have J:=Lib.hid i;have M:=Lib.hid C;have O:=Lib.hid X;have K:=Lib.hid l;have I:=V.kp a;have F:=hk.kp a;clear i C X r Z hL l;go_wp2_with(at_builtin;first
    | (refine bz (o:=⟨some 26,_,_,_,_,_⟩) U rfl _ _ rfl wr.heap.size _ _ rfl (Ow.lit wr 5 wr.heap.size 0 #[] [] (Ja _) rfl (by decide) rfl) _ T rfl (B.kp ((Kp.refl _).alloc _)) (by simp;omega) (by simp) ?_;intro v1 x1 u g1 _;have z:Kp wr x1:=Kp.grown ((Kp.refl wr).alloc _) g1 (by intro k e;cases e;exact Ja _);rw[JR] at u)
    | (refine bz (o:=⟨some 28,_,_,_,_,_⟩) U rfl _ _ rfl wr.heap.size _ _ rfl u _ info rfl (I.kp z) (by omega) z.size ?_;intro v2 P R g2 _;have S:Kp wr P:=Kp.grown z g2 u.own_ge)
    | (refine bz (o:=⟨some 32,_,_,_,_,_⟩) U rfl _ _ rfl wr.heap.size _ _ rfl (R.kp ((Kp.refl _).alloc _)) _ [x] rfl (Rd.box P 5 _ x rfl) (by rw[Jc];simp;omega) (S.alloc _).size ?_;intro v3 x3 o3 g3 _;have y:Kp wr x3:=Kp.grown (S.alloc _) g3 R.own_ge))
   have E:(T++info++[x]).length<=1900:=by rw[Jc,Jc];simp;omega
   refine(sj s v3 k (T++info++[x]) _ (F.kp y) o3.rd G E).mono ?_;rw[<-J.out];rintro e x4 ⟨⟨v4,rfl,t⟩,k4⟩;have f:=y.trans k4;go_wp2_with(at_builtin;first
    | (refine bz (o:=⟨some 38,_,_,_,_,_⟩) U rfl _ _ rfl w.heap.size _ L rfl (d.kp f) _ (dn k info j) rfl t.rd (by rw[K.out];omega) (a.trans f).size ?_;intro v5 x5 o5 g5 _;have D:=t.rd.grown g5 (λb o n' c e e2=>by have h1:=t.own_ge b (by rw[e];rfl);have h2:=d.lt b e2.symm;have h3:=y.size;omega);have k5:Kp w x5:=Kp.grown (a.trans f) g5 d.own_ge))
   go_roundw
   case rel=>exact⟨j+1,by omega,by go_num,by rw[M.out];exact o5,by rw[O.out];exact D,k5⟩
   case measure=>simp[intOf];omega
  ·have hq:¬32*(j:Int)<(n:Int):=by omega
   have m:=HF.out j (by omega);have N:=Lib.hid m;clear m B;have ab:(n:Int)<=32*(j:Int):=by omega
   have ad:(n:Int)<=(co:Int):=by omega
   go_wp2_with fail;go_ret2;exact⟨⟨_,rfl,by rw[show iH k info n=(di (dn k info) j).take n from N.out];exact d.rd.takes n (by omega),λg W=>d.own_ge g (by cases ao with|none=>exact W|some x=>exact W)⟩,a⟩
theorem DZ (c d:Value)(k info:List UInt8)(n:Int)(w:World)(j:Rd w c k)(l:Rd w d info)(f:k.length<=2000)(g:info.length<=1800):
  Calls prog 112 #[c,d,.int .i64 n] w λe w'=>(∃ v,e=.returned (.tuple #[v,.int .i64 (fv n)])/\Rd w' v (iI k info n)/\ba w.heap.size v)/\Kp w w':=by
 by_cases i:n<0
 ·have a:=kd k info (.inl i)
  rw[a.1,a.2];have m:decide (n<0)=true:=by simp[i]
  go_enter func112,ntmps112;go_wp2_with fail;go_ret2;exact⟨⟨_,rfl,cU _,ba.nil _ _ _⟩,Kp.refl _⟩
 ·by_cases h:8160<n
  ·have a:=kd k info (.inr h)
   rw[a.1,a.2];have m:decide (n<0)=false:=by simp;omega
   have o:decide (8160<n)=true:=by simp[h]
   go_enter func112,ntmps112;go_wp2_with fail;go_ret2;exact⟨⟨_,rfl,cU _,ba.nil _ _ _⟩,Kp.refl _⟩
  ·obtain⟨n,rfl⟩:=Jq (show 0<=n by omega)
   have b:=lB k info (show(n:Int)<=8160 by omega);rw[b.1,b.2];exact DY c d k info n w j l f g (by omega)
theorem sk (u:Value)(s:ByteArray)(A:Value)(k a:List UInt8)(n:Int)(w:World)(hk:Rd w u k)(hc:Rd w A a)(hs:s.size<=300)(M:a.length<=1400)(J:k.length<=2000):
  Calls prog 63 #[u,.string s,A,.int .i64 n] w λe w'=>(∃ v,e=.returned (.tuple #[v,.int .i64 (fv n)])/\Rd w' v (bU k s.data.toList a n)/\ba w.heap.size v)/\Kp w w':=by
 have U:=aj;have G:s.data.toList.length=s.size:=rfl;by_cases T:n<0
 ·have f:=kd k (de s.data.toList a n.toNat) (.inl T)
  unfold bU;rw[f.1,f.2];have d1:decide (n<0)=true:=by simp[T]
  go_enter func63,ntmps63;go_wp2_with fail;go_ret2;exact⟨⟨_,rfl,cU _,ba.nil _ _ _⟩,Kp.refl _⟩
 ·by_cases R:8160<n
  ·have f:=kd k (de s.data.toList a n.toNat) (.inr R)
   unfold bU;rw[f.1,f.2];have d1:decide (n<0)=false:=by simp;omega
   have d2:decide (8160<n)=true:=by simp[R]
   go_enter func63,ntmps63;go_wp2_with fail;go_ret2;exact⟨⟨_,rfl,cU _,ba.nil _ _ _⟩,Kp.refl _⟩
  ·obtain⟨n,rfl⟩:=Jq (show 0<=n by omega)
   have h:=rk s.data.toList a n (by omega) M;have HR:Hid (bU k s.data.toList a n=iI k (de s.data.toList a n) n):=rfl;have m:eE (n:Int) 2:=⟨by omega,by omega,by omega,by have:(256:Int) ^ (2:Int).toNat=65536:=(by decide);omega⟩;have V:=iz m;have r:fs (n:Int) 2=be 2 n:=by rw[V.2];rfl
   have i:=Lib.hid (λW=>pc n 2 W (by omega));rw[V.1,r] at i;have e3:=jU (x:=dJ++s.data.toList) (by rw[Jc,G];simp[dJ];omega);have z:=jU (x:=a) (by omega);have d:=Lib.hid (λW v Q=>pd v (dJ++s.data.toList) W Q);have c:=Lib.hid (λW Q=>pd A a W Q);rw[e3.1] at d;rw[z.1] at c;have ab:=λW (S:ByteArray)=>Lib.run_convert_string_bytes (P:=prog) W 9 24 5 S underlying9 underlying24 underlying5
   have HI:Hid (de s.data.toList a n=be 2 n++aI (dJ++s.data.toList)++aI a):=rfl;have I:(be 2 n).length=2:=bl _ _;have p:(be 2 n).length+(aI (dJ++s.data.toList)).length+(aI a).length<=1800:=by rw[HI.out,Jc,Jc] at h;exact h
   have g:(⟨#[77,76,83,32,49,46,48,32]⟩++s:ByteArray).size=8+s.size:=by rw[ByteArray.size_append];rfl
   have q:(⟨#[77,76,83,32,49,46,48,32]⟩++s:ByteArray).data.toList=dJ++s.data.toList:=by rw[ByteArray.data_append,Array.toList_append];rfl
   have H:=Lib.hid (λW=>show Rd (Lib.bytesWorld W 5 (⟨#[77,76,83,32,49,46,48,32]⟩++s)) (.slice (some ⟨W.heap.size,0,none⟩) (8+s.size) (grownCap W (8+s.size) 0 5)) (dJ++s.data.toList) from by
    have:=uY W 5 (⟨#[77,76,83,32,49,46,48,32]⟩++s) (by rw[g];omega);rw[q,g] at this;exact this)
   have K:=Lib.hid (λW=>uX W 5 (⟨#[77,76,83,32,49,46,48,32]⟩++s));have HD:=Lib.hid g;have d1:decide ((n:Int)<0)=false:=by simp
   have d2:decide (8160<(n:Int))=false:=by simp;omega
   have t:=Lib.hid p;have HX:=Lib.hid (λW B (L:Rd W u k) (h5:Rd W B (de s.data.toList a n))=>DZ u B k (de s.data.toList a n) n W L h5 J h);clear m V r e3 z h g q p I;rw[HR.out];go_enter func63,ntmps63;go_wp2_with(first
    | (go_at_call 62;refine(i.out _).mono ?_;rintro e X ⟨v1,rfl,y,k1⟩;obtain⟨a1,n1,c1,rfl⟩:=y.rd.sl))
   refine(d.out _ _ (H.out X)).mono ?_;rintro e w2 ⟨v2,rfl,Z,k2⟩;obtain⟨a2,n2,c2,rfl⟩:=Z.rd.sl;have E:=(K.out X).trans k2;have aa:=E.size;have N:=(hc.kp k1).kp E;go_wp2_with fail;refine(c.out _ N).mono ?_;rintro e w3 ⟨v3,rfl,C,k3⟩;obtain⟨a3,n3,c3,rfl⟩:=C.rd.sl;have l:=E.trans k3;have j:=k1.trans l;have r2:=Z.rd.kp k3;have D:=y.kp l;have O:∀ b,(Value.slice a1 n1 c1).ownBlock=some b->b<w2.heap.size:=λb e=>by have:=y.lt b e;omega
   go_wp2_with(at_builtin;first
    | (refine bz (o:=⟨some 42,_,_,_,_,_⟩) U rfl _ _ rfl w.heap.size _ (be 2 n) rfl D _ (aI (dJ++s.data.toList)) rfl r2 (by have:=t.out;omega) j.size ?_;intro v4 w4 Y g4 _;have r3:=C.rd.grown g4 (λb o n' c' e z=>by have T:=C.own_ge b (by rw[e];rfl);have R:=O b z.symm;omega);have k4:Kp w w4:=Kp.grown j g4 y.own_ge)
    | (refine bz (o:=⟨some 44,_,_,_,_,_⟩) U rfl _ _ rfl w.heap.size _ (be 2 n++aI (dJ++s.data.toList)) rfl Y _ (aI a) rfl r3 (by have:=t.out;rw[Jc];omega) k4.size ?_;intro B w5 o5 g5 _;have F:Kp w w5:=Kp.grown k4 g5 Y.own_ge))
   refine(HX.out _ _ (hk.kp F) (by rw[HI.out];exact o5.rd)).mono ?_;rintro e w6 ⟨⟨v6,rfl,r6,n6⟩,k6⟩;go_wp2_with fail;go_ret2;exact⟨⟨_,rfl,r6,n6.kp F⟩,F.trans k6⟩
theorem nR (b:Value)(s:ByteArray)(c:Value)(k a:List UInt8)(n:Int)(w:World)(h:Rd w b k)(i:Rd w c a)(g:s.size<=300)(f:a.length<=1400)(d:k.length<=2000):
  Calls prog 63 #[b,.string s,c,.int .i64 n] w λe w'=>(∃ v,e=.returned (.tuple #[v,.int .i64 (fv n)])/\Rd w' v (bU k s.data.toList a n))/\Kp w w':=
 (sk b s c k a n w h i g f d).mono λe w' ⟨⟨v,m,l,_⟩,j⟩=>⟨⟨v,m,l⟩,j⟩
theorem Ea (a:Value)(s:ByteArray)(k:List UInt8)(w:World)(i:Rd w a k)(h:s.size<=300)(c:k.length<=2000):
  Calls prog 81 #[a,.string s] w λe w'=>(∃ v,e=.returned (.tuple #[v,.int .i64 0])/\Rd w' v (iH k (de s.data.toList [] 32) 32)/\ba w.heap.size v)/\Kp w w':=by
 have f:=Lib.hid (sk a s (.slice none 0 0) k [] 32 w i (cU w) h (by simp) c);have l:fv 32=0:=rfl;have j:bU k s.data.toList [] 32=iH k (de s.data.toList [] 32) 32:=rfl;rw[l,j] at f;go_enter func81,ntmps81;go_wp2_with(first|(go_at_call 63;refine f.out.mono ?_;rintro e m ⟨⟨n,rfl,d,b⟩,g⟩;obtain⟨q,o,p,rfl⟩:=d.sl))
 go_ret2;exact⟨⟨_,rfl,d,b⟩,g⟩
theorem Ei (x:Int)(w:World)(b:-9223372036854775808<=x/\x<=9223372036854775807)(a:Tab w):
  Calls prog 119 #[.int .i64 x] w λe w'=>e=.returned (.tuple #[.int .i64 (loV x),.int .i64 (hiV x)])/\Kp w w':=
 (Ef x w a).mono (by rintro _ _ ⟨rfl,rfl⟩;exact⟨rfl,Kp.refl _⟩)
def iT (t:List Nod):Nat:=if cm ((lvs t:Nat):Int)=true/\2*lvs t=t.length+1 then lvs t else 0
theorem nT {K:Nat}(b:K<=10)(h:t.length=2 ^ (K+1) - 1):iT t=2 ^ K/\lvs t=2 ^ K:=by
 have d:=bi K;have c:=bC K;have a:lvs t=2 ^ K:=by unfold lvs;omega
 refine⟨?_,a⟩;unfold iT;rw[a,if_pos ⟨mi K b,by omega⟩]
end Go.Proofs.YthmhklmkgkfcpaaGreatDoor
namespace Go.Proofs
open Go.Shelf
def Tryz.lays189_ren:Go.Shelf.Ren:=⟨fun|189=>148|125=>183|257=>182|128=>221|129=>222|294=>212|295=>213|296=>214|297=>215|298=>216|299=>217|216=>218|300=>219|301=>220|328=>251|329=>252|330=>253|331=>254|332=>255|215=>256|343=>269|n=>n,fun|28=>34|3=>3|46=>205|0=>0|51=>247|53=>249|4=>4|183=>241|182=>240|131=>143|5=>5|9=>9|218=>270|222=>274|228=>288|229=>69|n=>n,fun|n=>n⟩
theorem Tryz.lays189:Go.Proofs.Lays.n189 Tryz.prog Tryz.lays189_ren:={
 mixed:=by kernel_rfl
 f125:=Tryz.func183.trans (congrArg some (by kernel_rfl))
 f128:=Tryz.func221.trans (congrArg some (by kernel_rfl))
 f129:=Tryz.func222.trans (congrArg some (by kernel_rfl))
 f189:=Tryz.func148.trans (congrArg some (by kernel_rfl))
 f215:=Tryz.func256.trans (congrArg some (by kernel_rfl))
 f216:=Tryz.func218.trans (congrArg some (by kernel_rfl))
 f257:=Tryz.func182.trans (congrArg some (by kernel_rfl))
 f294:=Tryz.func212.trans (congrArg some (by kernel_rfl))
 f295:=Tryz.func213.trans (congrArg some (by kernel_rfl))
 f296:=Tryz.func214.trans (congrArg some (by kernel_rfl))
 f297:=Tryz.func215.trans (congrArg some (by kernel_rfl))
 f298:=Tryz.func216.trans (congrArg some (by kernel_rfl))
 f299:=Tryz.func217.trans (congrArg some (by kernel_rfl))
 f300:=Tryz.func219.trans (congrArg some (by kernel_rfl))
 f301:=Tryz.func220.trans (congrArg some (by kernel_rfl))
 f328:=Tryz.func251.trans (congrArg some (by kernel_rfl))
 f329:=Tryz.func252.trans (congrArg some (by kernel_rfl))
 f330:=Tryz.func253.trans (congrArg some (by kernel_rfl))
 f331:=Tryz.func254.trans (congrArg some (by kernel_rfl))
 f332:=Tryz.func255.trans (congrArg some (by kernel_rfl))
 f343:=Tryz.func269.trans (congrArg some (by kernel_rfl))
 t0:=Tryz.underlying0
 a0:=Tryz.isAgg0
 z0:=Tryz.sizeOf0
 v0:=Tryz.zeroValue0
 t3:=Tryz.underlying3
 a3:=Tryz.isAgg3
 z3:=Tryz.sizeOf3
 v3:=Tryz.zeroValue3
 t4:=Tryz.underlying4
 a4:=Tryz.isAgg4
 z4:=Tryz.sizeOf4
 v4:=Tryz.zeroValue4
 t5:=Tryz.underlying5
 a5:=Tryz.isAgg5
 z5:=Tryz.sizeOf5
 v5:=Tryz.zeroValue5
 t9:=Tryz.underlying9
 a9:=Tryz.isAgg9
 z9:=Tryz.sizeOf9
 v9:=Tryz.zeroValue9
 t28:=Tryz.underlying34
 a28:=Tryz.isAgg34
 z28:=Tryz.sizeOf34
 v28:=Tryz.zeroValue34
 t46:=Tryz.underlying205
 a46:=Tryz.isAgg205
 z46:=Tryz.sizeOf205
 v46:=Tryz.zeroValue205
 t51:=Tryz.underlying247
 a51:=Tryz.isAgg247
 z51:=Tryz.sizeOf247
 v51:=Tryz.zeroValue247
 t53:=Tryz.underlying249
 a53:=Tryz.isAgg249
 z53:=Tryz.sizeOf249
 v53:=Tryz.zeroValue249
 t131:=Tryz.underlying143
 a131:=Tryz.isAgg143
 z131:=Tryz.sizeOf143
 v131:=Tryz.zeroValue143
 t182:=Tryz.underlying240
 a182:=Tryz.isAgg240
 z182:=Tryz.sizeOf240
 v182:=Tryz.zeroValue240
 t183:=Tryz.underlying241
 a183:=Tryz.isAgg241
 z183:=Tryz.sizeOf241
 v183:=Tryz.zeroValue241
 t218:=Tryz.underlying270
 a218:=Tryz.isAgg270
 z218:=Tryz.sizeOf270
 v218:=Tryz.zeroValue270
 t222:=Tryz.underlying274
 a222:=Tryz.isAgg274
 z222:=Tryz.sizeOf274
 v222:=Tryz.zeroValue274
 t228:=Tryz.underlying288
 a228:=Tryz.isAgg288
 z228:=Tryz.sizeOf288
 v228:=Tryz.zeroValue288
 t229:=Tryz.underlying69
 a229:=Tryz.isAgg69
 z229:=Tryz.sizeOf69
 v229:=Tryz.zeroValue69 }
open Go.Sort Go.RowKit in
theorem Tryz.slices_Sort_int (a b f:Nat)(c:List Int)(w:World)(i:Holds (Value.int .i64) w a b c.toArray)(d:a<w.heap.size)(g:c.length<4611686018427387904):
 Calls Tryz.prog 148 #[.slice (some ⟨a,b,none⟩) c.length f] w λe w'=>
  e=.returned (.tuple #[])/\∃ n h,w'=grow (putRow (Value.int .i64) (Sort.ahead w n) a b (c.mergeSort λx y=>decide (x<=y)).toArray) h:=Any.slices_Sort_int Tryz.lays189 a b f c w i d g
open Go.RowKit Go.Sort in
theorem Tryz.slices_Sort_int_none (p:Option Addr)(a:Nat)(w:World):
 Calls Tryz.prog 148 #[.slice p 0 a] w λe w'=>e=.returned (.tuple #[])/\w'=w:=Any.slices_Sort_int_none Tryz.lays189 p a w
def Tryz.laysnb115_ren:Go.Shelf.Ren:=⟨fun|115=>52|n=>n,fun|37=>24|4=>4|9=>9|5=>5|n=>n,fun|n=>n⟩
theorem Tryz.laysnb115:Go.Proofs.Lays.nb115 Tryz.prog Tryz.laysnb115_ren:={
 mixed:=by kernel_rfl
 f115:=Tryz.func52.trans (congrArg some (by kernel_rfl))
 t4:=Tryz.underlying4
 a4:=Tryz.isAgg4
 z4:=Tryz.sizeOf4
 v4:=Tryz.zeroValue4
 t9:=Tryz.underlying9
 a9:=Tryz.isAgg9
 z9:=Tryz.sizeOf9
 v9:=Tryz.zeroValue9
 t37:=Tryz.underlying24
 a37:=Tryz.isAgg24
 z37:=Tryz.sizeOf24
 v37:=Tryz.zeroValue24
 t5:=Tryz.underlying5
 a5:=Tryz.isAgg5
 z5:=Tryz.sizeOf5
 v5:=Tryz.zeroValue5 }
theorem Tryz.bytes_Equal_all (p1 p2:Option Addr)(n c m d:Nat)(xs a:List Int)(w:World)(f:xs.length=n)(b:a.length=m)(h:Lib.BytesIn w p1 n xs)(g:Lib.BytesIn w p2 m a):
 Calls Tryz.prog 52 #[.slice p1 n c,.slice p2 m d] w λe w'=>e=.returned (.bool (Lib.bytesOf xs==Lib.bytesOf a))/\w'=w:=Any.bytes_Equal_all Tryz.laysnb115 p1 p2 n c m d xs a w f b h g

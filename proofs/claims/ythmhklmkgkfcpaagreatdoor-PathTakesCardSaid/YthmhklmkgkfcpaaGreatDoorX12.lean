import Derived.Test.YthmhklmkgkfcpaaGreatDoorX11
import Derived.RangeFuncBox
import Derived.Lib.ConvBytes
import Derived.Lib.SlicesCompact
import Derived.Maps.OwnIn
import Derived.Shelf.Spec.SlicesInsertGrow
import Derived.Shelf.Spec.SlicesInsert
import Derived.Shelf.Strconv.Itoa0
import Derived.Shelf.Sort.Plain
import Derived.Ground.Names2Prog
import Derived.Shelf.Slices.SearchI
import Derived.Shelf.Slices.In.SortNone
import Derived.Shelf.Bytes.SlEqualAll
import Derived.Shelf.Bytes.Small
import Derived.Sort.OwnSortedInts
import Derived.Lib.OwnBridge
import Derived.Deep.Fields
set_option linter.all false
set_option maxHeartbeats 8000000
set_option maxRecDepth 100000
namespace Go.Proofs.YthmhklmkgkfcpaaGreatDoor
open Go.Proofs.Tryz Go.RowKit
variable {A w w' w0:World}{B C K N b c d g i j k n:Nat}{F:Fence}{H P U:Nat->Value}{J T e:TypeId}{L:List Nat}{Q:Exit->Act->World->Prop}{R S S' Y Z:Nat->Prop}{a:Act}{cs:Array Value}{l:List Int}{o oj:Oper}{r v:Value}{t:List Nod}
def Bx (w:World)(b:Nat)(T:TypeId)(cs:Array Value):Prop:=w.heap[b]?=some (.cells cs T (0,0))
theorem Bx.kp (h:Bx w b T cs)(k:Kp w w'):Bx w' b T cs:=
 (Below.block k b (JK.1 h).1).trans h
theorem Bx.cell (h:Bx w b T cs)(j:Nat):w.cell? ⟨b,j,none⟩=cs[j]?:=cell_of_row w b j cs T (0,0) h
theorem Bx.frozen (h:Bx w b T cs)(j:Nat):w.frozen? ⟨b,j,none⟩=false:=frozen_of_row w b j cs T h
theorem Bx.new (w:World)(T:TypeId)(cs:Array Value):Bx (w.alloc (.cells cs T)) w.heap.size T cs:=heap_alloc_new w _
def Oa:=@Bx.new
theorem Bx.set (h:Bx w b T cs)(j:Nat)(v:Value):Bx (w.setCell ⟨b,j,none⟩ v) b T (cs.setIfInBounds j v):=heap_setCell_same w b j cs T v h
theorem Kp.setNew (h:Kp w w')(a:w.heap.size<=b)(v:Value):Kp w (w'.setCell ⟨b,j,none⟩ v):=Below.setCell h a v
theorem aA {l:List UInt8}(h:Rd w v l):∃ a n c,v=.slice a n c:=by
 obtain⟨a,c,e,_⟩:=h.shape;exact⟨_,_,_,e⟩
theorem Bx.setCells {b:Nat}{T:TypeId}:∀ (vs:List Value) (o:Nat) (w:World) (cs:Array Value),Bx w b T cs->o+vs.length<=cs.size ->
  ∃ cs':Array Value,Bx (w.setCells b o vs) b T cs'/\cs'.size=cs.size/\∀ k,cs'[k]?=if o<=k/\k<o+vs.length then vs[k - o]? else cs[k]?
 | [],o,w,cs,h,_=>⟨cs,h,rfl,λk=>by rw[if_neg (by simp only[Kf];omega)]⟩
 | v :: vs,o,w,cs,h,hl=>by
  simp only[Ka] at hl
  obtain⟨cs',h2,h3,h4⟩:=Bx.setCells vs (o+1) (w.setCell ⟨b,o,none⟩ v) (cs.setIfInBounds o v) (h.set o v) (by rw[Nj];omega)
  refine⟨cs',h2,by rw[h3,Nj],λk=>?_⟩
  rw[h4 k]
  simp only[Ka]
  by_cases h5:o+1<=k/\k<o+1+vs.length
  ·rw[if_pos h5,if_pos ⟨by omega,by omega⟩,show k - o=(k - (o+1))+1 by omega,JU]
  ·rw[if_neg h5,Array.getElem?_setIfInBounds]
   by_cases h6:o=k
   ·subst h6
    rw[if_pos rfl,if_pos (by omega),if_pos ⟨by omega,by omega⟩,Mq]
    rfl
   ·rw[if_neg h6,if_neg (by omega)]
theorem Bx.fill (h:Bx w b T cs)(vs:Array Value)(f:vs.size=cs.size):Bx (w.setCells b 0 vs.toList) b T vs:=by
 obtain⟨a,d,g,c⟩:=Bx.setCells vs.toList 0 w cs h (by rw[Nh];omega);have e:a=vs:=by
  refine Array.ext_getElem? λk=>?_
  rw[c k,Nh];split
  ·rw[NH,Nv]
  ·next hk=>rw[Nq (by omega),Nq (by omega)]
 exact e▸d
theorem Bx.there (h:Bx w b T cs):w.there b 0 cs.size:=λj a=>by
 rw[Lf,h.cell j];exact⟨by simp[a],h.frozen j⟩
theorem Kp.setCells (h:Kp w w')(a:w.heap.size<=b):∀ (vs:List Value) (o:Nat),Kp w (w'.setCells b o vs):=by
 intro vs
 induction vs generalizing w' with
 | nil=>intro o;exact h
 | cons v vs ih=>intro o;exact ih (h.setNew a v) (o+1)
def upd (f:Nat->Value)(i:Nat)(x:Value):Nat->Value:=λj=>if j=i then x else f j
theorem dI (f:Nat->Value)(i:Nat)(x:Value):upd f i x i=x:=if_pos rfl
theorem dB (f:Nat->Value)(x:Value)(h:j≠i):upd f i x j=f j:=if_neg h
structure NX (e ei:TypeId)(w:World)(B:Nat)(v:Value)(t:List Nod)(P U H:Nat->Value)(S:Nat->Prop):Prop where
 mk ::
 row:∃ us:List Value,w.ownsRow B e 5 v t.length us/\(∀ z∈us,z.oneCell'=true)/\∀ i,i<t.length->∀ f,f<5->us[i*5+f]?=(cj (ats t i) (P i) (U i) (H i))[f]?
 ins:∀ i,i<t.length->NIn w (ats t i) (P i) (U i) (H i)
 apv:∀ i,i<t.length->aQ v (P i)/\aQ v (U i)/\aQ v (H i)
 own:∀ i,i<t.length->S i->OI ei w B (U i) (ats t i).un
 sep:∀ i,i<t.length->S i->∀ g,(U i).ownBlock=some g->v.ownBlock≠some g/\∀ j,j<t.length->aQ (U i) (P j)/\aQ (U i) (H j)/\(i≠j->aQ (U i) (U j))
 inj:∀ i j,i<t.length->j<t.length->S i->S j->∀ g,(U i).ownBlock=some g->(U j).ownBlock=some g->i=j
theorem NX.kp {b:TypeId}(h:NX e b w B v t P U H S)(k:Kp w w'):NX e b w' B v t P U H S:=by
 obtain⟨us,g,f,d⟩:=h.row;exact⟨⟨us,oO g k,f,d⟩,λi a=>(h.ins i a).kp k,h.apv,λi a c=>(h.own i a c).kp k,h.sep,h.inj⟩
theorem NX.no {f:TypeId}(h:NX e f w B v t P U H S):NO e w B v t:=by
 obtain⟨us,d,c,b⟩:=h.row;exact⟨us,d,c,λi a=>⟨P i,U i,H i,b i a,h.ins i a,h.apv i a⟩⟩
theorem NX.weak {g:TypeId}(h:NX e g w B v t P U H S)(c:∀ i,i<t.length->S' i->S i):NX e g w B v t P U H S':=
 ⟨h.row,h.ins,h.apv,λi b a=>h.own i b (c i b a),λi b a=>h.sep i b (c i b a),λi j b f a d=>h.inj i j b f (c i b a) (c j f d)⟩
theorem gI (w:World)(g o:Nat):∀ (vs:List Value) (o:Nat),w.grownBy (w.setCells g o vs) (some g):=by
 intro vs
 induction vs generalizing w with
 | nil=>exact λo=>⟨rfl,rfl,rfl,JO _,λ_ _ _=>rfl⟩
 | cons v vs ih=>
  intro o
  have a:=ih (w.setCell ⟨g,o,none⟩ v) (o+1)
  refine⟨a.os,a.tape,a.output,by show w.heap.size<=((w.setCell ⟨g,o,none⟩ v).setCells g (o+1) vs).heap.size;have:=a.size;simpa using this,λk c b=>(a.block k (by simpa using c) b).trans ?_⟩
  exact Below.heap_setCell w _ _ k (λe=>b (by rw[e]))
theorem OI.grown9 {r:Option Nat}(h:OI e w B v l)(f:w.grownBy w' r)(d:∀ g,v.ownBlock=some g->r≠some g):OI e w' B v l:=by
 refine⟨h.1,?_⟩;rcases h.2 with j|⟨g,c,b,rfl,i,a,rest⟩
 ·exact .inl j
 ·exact .inr ⟨g,c,b,rfl,i,(f.block g (JK.1 a).1 (λe=>d g rfl e.symm)).trans a,rest⟩
theorem NX.put {W:TypeId}{w2:World}(h:NX e W w B (.slice (some ⟨g,0,none⟩) N c) t P U H S)
  (I:w2.heap[g]?=w.heap[g]?) (i:Nat) (hi:i<t.length) (m:Nod) (p u q:Value)
  (af:∀ j,j<t.length->j≠i->NIn w2 (ats t j) (P j) (U j) (H j)) (S':Nat->Prop) (T:∀ j,j<t.length->j≠i->S' j->S j)
  (ad:∀ j,j<t.length->j≠i->S' j->OI W w2 B (U j) (ats t j).un)
  (ah:NIn w2 m p u q) (x:aQ (.slice (some ⟨g,0,none⟩) N c) p/\aQ (.slice (some ⟨g,0,none⟩) N c) u/\aQ (.slice (some ⟨g,0,none⟩) N c) q)
  (ae:S' i->OI W w2 B u m.un)
  (G:S' i->∀ M,u.ownBlock=some M->g≠M/\aQ u p/\aQ u q/\∀ j,j<t.length->j≠i->aQ u (P j)/\aQ u (H j)/\aQ u (U j))
  (ab:∀ j,j<t.length->j≠i->S' j->aQ (U j) p/\aQ (U j) q/\aQ (U j) u)
  (K:S' i->∀ M,u.ownBlock=some M->∀ j,j<t.length->j≠i->S' j->(U j).ownBlock≠some M)
  (o:Nat) (vs:List Value) (ak:o+vs.length<=5) (J:∀ z∈vs,z.oneCell'=true)
  (hc:∀ f,f<5->(cj m p u q)[f]?=if o<=f/\f<o+vs.length then vs[f - o]? else (cj (ats t i) (P i) (U i) (H i))[f]?):
  NX e W (w2.setCells g (i*5+o) vs) B (.slice (some ⟨g,0,none⟩) N c) (t.set i m) (upd P i p) (upd U i u) (upd H i q) S':=by
 obtain⟨us,R,k2,k3⟩:=h.row;have hn:t.length=N:=by
  rcases R.2 with⟨e,_⟩|⟨O,ai,Q,e,_⟩
  ·simp at e
  ·simp only[JR] at e;exact e.2.1.symm
 subst hn;have aa:=R.1;have Z:w2.ownsRow B e 5 (.slice (some ⟨g,0,none⟩) t.length c) t.length us:=by
  refine⟨R.1,?_⟩;rcases R.2 with D|⟨O,ai,Q,a,hb,hg,rest⟩
  ·exact .inl D
  ·simp only[JR,Ky,Lv,and_true] at a
   obtain⟨rfl,_,rfl⟩:=a;exact .inr ⟨g,c,Q,rfl,hb,I.trans hg,rest⟩
 have aj:i*5+5<=t.length*5:=by omega
 obtain⟨ys,y1,y2,y3,y4⟩:=oQ vs (i*5+o) w2 us Z (by rw[aa];omega);have b:(t.set i m).length=t.length:=Km ..;have V:=gI w2 g 0 vs (i*5+o);have C:∀ j,ats (t.set i m) j=if j=i then m else ats t j:=λj=>fm t i m j hi
 have L:∀ j,j<t.length->j≠i->aQ (.slice (some ⟨g,0,none⟩) t.length c) (P j)/\aQ (.slice (some ⟨g,0,none⟩) t.length c) (U j)/\aQ (.slice (some ⟨g,0,none⟩) t.length c) (H j):=λj d _=>h.apv j d
 refine⟨⟨ys,by rw[b];exact y1,λz hz=>?_,λj d f hf=>?_⟩,λj d=>?_,λj d=>?_,λj d r=>?_,λj d r F s=>?_,λj k d n r y F D E=>?_⟩
 ·obtain⟨k,n⟩:=List.getElem?_of_mem hz
  rw[y4] at n;split at n
  ·exact J z (Lx n)
  ·exact k2 z (Lx n)
 ·rw[b] at d
  rw[y4,C];by_cases a:j=i
  ·subst a
   rw[if_pos rfl,dI,dI,dI,hc f hf];by_cases h5:o<=f/\f<o+vs.length
   ·rw[if_pos ⟨by omega,by omega⟩,if_pos h5,show j*5+f - (j*5+o)=f - o by omega]
   ·rw[if_neg (λhh=>h5 ⟨by omega,by omega⟩),if_neg h5]
    exact k3 j d f hf
  ·rw[if_neg a,dB _ _ a,dB _ _ a,dB _ _ a,if_neg (λhh=>by omega)]
   exact k3 j d f hf
 ·rw[b] at d
  rw[C];by_cases a:j=i
  ·subst a
   rw[if_pos rfl,dI,dI,dI];exact ah.grown (v:=.slice (some ⟨g,0,none⟩) t.length c) V x.1 x.2.1 x.2.2
  ·rw[if_neg a,dB _ _ a,dB _ _ a,dB _ _ a]
   obtain⟨b1,b2,b3⟩:=L j d a;exact(af j d a).grown (v:=.slice (some ⟨g,0,none⟩) t.length c) V b1 b2 b3
 ·rw[b] at d
  by_cases a:j=i
  ·subst a
   rw[dI,dI,dI];exact x
  ·rw[dB _ _ a,dB _ _ a,dB _ _ a]
   exact L j d a
 ·rw[b] at d
  rw[C];by_cases a:j=i
  ·subst a
   rw[if_pos rfl,dI];exact(ae r).grown9 V (λO A l=>(G r O A).1 (by simpa using l))
  ·rw[if_neg a,dB _ _ a]
   exact(ad j d a r).grown9 V (λO A l=>(h.sep j d (T j d a r) O A).1 l)
 ·rw[b] at d
  by_cases a:j=i
  ·subst a
   rw[dI] at s;obtain⟨Y,X,s3,s4⟩:=G r F s;refine⟨λl=>Y (by simpa [Value.ownBlock] using l),λk n=>?_⟩;rw[b] at n;by_cases l:k=j
   ·subst l
    rw[dI,dI,dI];exact⟨X,s3,λag=>absurd rfl ag⟩
   ·rw[dI,dB _ _ l,dB _ _ l,dB _ _ l]
    obtain⟨a1,a2,a3⟩:=s4 k n l;exact⟨a1,a2,λ_=>a3⟩
  ·rw[dB _ _ a] at s
   obtain⟨Y,X⟩:=h.sep j d (T j d a r) F s;refine⟨Y,λk n=>?_⟩;rw[b] at n;rw[dB _ _ a];by_cases l:k=i
   ·subst l
    rw[dI,dI,dI];obtain⟨a1,a2,a3⟩:=ab j d a r;exact⟨a1,a2,λ_=>a3⟩
   ·rw[dB _ _ l,dB _ _ l,dB _ _ l]
    exact X k n
 ·rw[b] at d n
  by_cases a:j=i
  ·by_cases l:k=i
   ·rw[a,l]
   ·subst a
    rw[dI] at D;rw[dB _ _ l] at E;exact absurd E (K r F D k n l y)
  ·rw[dB _ _ a] at D
   by_cases l:k=i
   ·subst l
    rw[dI] at E;exact absurd D (K y F E j d a r)
   ·rw[dB _ _ l] at E
    exact h.inj j k d n (T j d a r) (T k n l y) F D E
theorem kh {u x:Value}(a:∀ g,x.ownBlock=some g->C<=g)(b:∀ g,u.ownBlock=some g->g<C):aQ u x:=λg d y n c e j f=>by
 have i:=b g d;have h:=a y.block (by rw[e];rfl);omega
theorem NX.len {b:TypeId}(h:NX e b w B (.slice (some ⟨g,0,none⟩) N c) t P U H S):t.length=N:=by
 obtain⟨us,a,_⟩:=h.row;rcases a.2 with⟨e,_⟩|⟨g',cap,cur,e,_⟩
 ·simp at e
 ·simp only[JR] at e;exact e.2.1.symm
theorem qT (t:List Nod)(i:Nat)(a:i<t.length):t.set i (ats t i)=t:=by
 rw[kg a];exact Mz a
theorem NX.clonePub {x E:TypeId}{q:World}(h:NX e x w B (.slice (some ⟨g,0,none⟩) N c) t P U H S)(K:Kp w q)(i:k<t.length)(u:¬S k)
  {p:Value} (r:Ow E q C p (ats t k).pub) (D:w.heap.size<=C) (y:g<w.heap.size):
  NX e x (q.setCells g (k*5+2) [p]) B (.slice (some ⟨g,0,none⟩) N c) t (upd P k p) (upd U k (U k)) (upd H k (H k)) S:=by
 have o:=h.kp K;have F:aQ (.slice (some ⟨g,0,none⟩) N c) p:=kh (C:=C) r.own_ge (λl b=>by cases b;exact JV y D);have:=o.put (w2:=q) rfl k i (ats t k) p (U k) (H k) (λj m _=>o.ins j m) S (λj _ _ h=>h) (λj m _ d=>o.own j m d) ⟨r.rd,(o.ins k i).un,(o.ins k i).hash⟩ ⟨F,(o.apv k i).2.1,(o.apv k i).2.2⟩
  (λd=>absurd d u) (λd=>absurd d u) (λj m s d=>?_) (λd=>absurd d u) 2 [p] (by simp) (λz v=>by
   simp at v;subst v;obtain⟨a,n,c,e⟩:=aA r.rd;rw[e];rfl) (λf A=>by
   match f,A with
   | 0,_=>rfl
   | 1,_=>rfl
   | 2,_=>rfl
   | 3,_=>rfl
   | 4,_=>rfl)
 ·rwa [qT t k i] at this
 ·refine⟨kh (C:=C) r.own_ge (λl b=>?_),?_,?_⟩
  ·have:=((h.own j m d).lt l b).2
   omega
  ·exact λl b=>((h.sep j m d l b).2 k i).2.1 l b
  ·exact λl b=>((h.sep j m d l b).2 k i).2.2 s l b
theorem NX.cloneUn {F:TypeId}{v:World}(h:NX e F w B (.slice (some ⟨g,0,none⟩) N c) t P U H S)(K:Kp w v)(m:k<t.length)(y:∀ j,S' j->j≠k->S j)
  {o:Value} (x:OI F v C o (ats t k).un) (E:w.heap.size<=C) (I:g<w.heap.size) (L:B<=w.heap.size):
  NX e F (v.setCells g (k*5+3) [o]) B (.slice (some ⟨g,0,none⟩) N c) t (upd P k (P k)) (upd U k o) (upd H k (H k)) S':=by
 have u:=h.kp K;have D:=λi b=>(x.lt i b).1
 have M:aQ (.slice (some ⟨g,0,none⟩) N c) o:=kh (C:=C) D (λi b=>by cases b;exact JV I E);have p:∀ i,o.ownBlock=some i->w.heap.size<=i:=λi b=>Kd E (D i b)
 have:=u.put (w2:=v) rfl k m (ats t k) (P k) o (H k) (λj l _=>u.ins j l) S' (λj _ d r=>y j r d) (λj l d r=>u.own j l (y j r d)) ⟨(u.ins k m).pub,x.ri,(u.ins k m).hash⟩ ⟨(u.apv k m).1,M,(u.apv k m).2.2⟩
  (λ_=>x.mono (Kd L E)) (λ_ A s=>⟨λe=>by have:=p A s;omega,(h.ins k m).pub.apart p,(h.ins k m).hash.apart p,λj l _=>⟨(h.ins j l).pub.apart p,(h.ins j l).hash.apart p,(h.ins j l).un.apart p⟩⟩)
  (λj l d r=>?_) (λ_ A s j l d r e=>by have Q:=((h.own j l (y j r d)).lt A e).2;have O:=p A s;omega) 3 [o] (by simp) (λz G=>by
   simp at G;subst G;obtain⟨a,n,c,e⟩:=x.ri.sl;rw[e];rfl) (λf J=>by
   match f,J with
   | 0,_=>rfl
   | 1,_=>rfl
   | 2,_=>rfl
   | 3,_=>rfl
   | 4,_=>rfl)
 ·rwa [qT t k m] at this
 ·have q:=y j r d
  refine⟨?_,?_,kh (C:=C) D (λi b=>?_)⟩
  ·exact λi b=>((h.sep j l q i b).2 k m).1 i b
  ·exact λi b=>((h.sep j l q i b).2 k m).2.1 i b
  ·have:=((h.own j l q).lt i b).2
   omega
theorem NX.cloneHash {D:TypeId}{u:World}(h:NX e D w B (.slice (some ⟨g,0,none⟩) N c) t P U H S)(K:Kp w u)(d:k<t.length)
   (s:Ow J u C r (ats t k).hash) (I:w.heap.size<=C) (F:g<w.heap.size):
  NX e D (u.setCells g (k*5+4) [r]) B (.slice (some ⟨g,0,none⟩) N c) t (upd P k (P k)) (upd U k (U k)) (upd H k r) S:=by
 have p:=h.kp K;have L:aQ (.slice (some ⟨g,0,none⟩) N c) r:=kh (C:=C) s.own_ge (λo b=>by cases b;exact JV F I);have:=p.put (w2:=u) rfl k d (ats t k) (P k) (U k) r (λj i _=>p.ins j i) S (λj _ _ h=>h) (λj i _ l=>p.own j i l) ⟨(p.ins k d).pub,(p.ins k d).un,s.rd⟩ ⟨(p.apv k d).1,(p.apv k d).2.1,L⟩
  (λl=>p.own k d l) (λl y q=>?_) (λj i m l=>?_) (λl y q j i m x e=>m (h.inj j k i d x l y e q)) 4 [r] (by simp) (λz A=>by
   simp at A;subst A;obtain⟨a,n,c,e⟩:=aA s.rd;rw[e];rfl) (λf G=>by
   match f,G with
   | 0,_=>rfl
   | 1,_=>rfl
   | 2,_=>rfl
   | 3,_=>rfl
   | 4,_=>rfl)
 ·rwa [qT t k d] at this
 ·obtain⟨E,v⟩:=h.sep k d l y q
  refine⟨λe=>E (by rw[e];rfl),(v k d).1,kh (C:=C) s.own_ge (λo b=>?_),λj i m=>⟨(v j i).1,(v j i).2.1,(v j i).2.2 (λe=>m e.symm)⟩⟩;have:=((h.own k d l).lt o b).2;omega
 ·refine⟨?_,kh (C:=C) s.own_ge (λo b=>?_),?_⟩
  ·exact λo b=>((h.sep j i l o b).2 k d).1 o b
  ·have:=((h.own j i l).lt o b).2
   omega
  ·exact λo b=>((h.sep j i l o b).2 k d).2.2 m o b
theorem Bx.grown {r:Option Nat}(h:Bx w b T cs)(c:w.grownBy w' r)(a:some b≠r):Bx w' b T cs:=(c.block b (JK.1 h).1 a).trans h
theorem NX.there {b:TypeId}(h:NX e b w B (.slice (some ⟨g,0,none⟩) N c) t P U H S)(i:Nat)(a:i<t.length)(f:Nat)(k:f<5):w.there g (i*5+f) 1:=λj d=>by
 have:=h.no.there i a (f+j) (by omega);rwa [<-Mn] at this
def br (Z:Nat->Prop)(v:Value):Prop:=∀ x n c,v=.slice (some x) n c->0<n->¬Z x.block
theorem br.mono {a:Nat->Prop}(h:br Z v)(b:∀ k,a k->Z k):br a v:=λx n c e f d=>h x n c e f (b _ d)
theorem br.nil (Z:Nat->Prop)(a:Option Addr)(c:Nat):br Z (.slice a 0 c):=λx n d e b=>by
 simp only[JR] at e;omega
theorem Rd.inside {l:List UInt8}(h:Rd w v l):∀ x n c,v=.slice (some x) n c->0<n->x.block<w.heap.size:=λx n c e f=>by
 obtain⟨m,k,a,j,i,g,d⟩:=h;rw[e] at a;simp only[JR] at a;obtain⟨rfl,rfl,rfl⟩:=a;have b:=Kl w _ (d x rfl 0 f);rwa [fx] at b
theorem RI.inside (h:RI w v l):∀ x n c,v=.slice (some x) n c->0<n->x.block<w.heap.size:=λx n c e f=>by
 obtain⟨m,k,a,j,i,g,d⟩:=h;rw[e] at a;simp only[JR] at a;obtain⟨rfl,rfl,rfl⟩:=a;have b:=Kl w _ (d x rfl 0 f);rwa [fx] at b
theorem Rd.stepF {B:World}{l:List UInt8}(h:Rd A v l)(d:az Y A B)(g:br Y v):Rd B v l:=by
 obtain⟨a,c,e,o,n,m,k⟩:=h;subst e;refine⟨a,c,rfl,o,n,m,λx b i f=>?_⟩;have j:=k x b i f;subst b;exact d.cell j (by rw[fx];exact g x _ c rfl (by omega))
theorem RI.stepF {B:World}(h:RI A v l)(f:az Y A B)(g:br Y v):RI B v l:=by
 obtain⟨a,c,e,o,n,m,k⟩:=h;subst e;refine⟨a,c,rfl,o,n,m,λx b i d=>?_⟩;have j:=k x b i d;subst b;exact f.cell j (by rw[fx];exact g x _ c rfl (by first|omega|(rw[Kw] at d ⊢;omega)))
theorem br.grew {B:World}{f:Nat->Prop}(h:br Y v)(a:∀ x n c,v=.slice (some x) n c->0<n->x.block<A.heap.size)(i:li Y f A B):br f v:=λx n c e d g=>by
 rcases i _ g with b|b
 ·exact h x n c e d b
 ·have:=a x n c e d
  omega
def jg (Z:Nat->Prop)(N:Nat)(P U H:Nat->Value):Prop:=∀ j,j<N->br Z (P j)/\br Z (U j)/\br Z (H j)
theorem NX.stepF {l:TypeId}{B:World}(h:NX e l A C (.slice (some ⟨g,0,none⟩) n c) t P U H (λ_=>False))(a:az Y A B)(p:¬Y g)(q:jg Y t.length P U H):
  NX e l B C (.slice (some ⟨g,0,none⟩) n c) t P U H (λ_=>False):=by
 obtain⟨us,k,u,s⟩:=h.row;refine⟨⟨us,⟨k.1,?_⟩,u,s⟩,λi b=>?_,h.apv,λi b a=>a.elim,λi b a=>a.elim,λi j b z a=>a.elim⟩
 ·rcases k.2 with o|⟨D,y,f,m,r,d,rest⟩
  ·exact .inl o
  ·simp only[JR,Ky,Lv,and_true] at m
   obtain⟨rfl,_,rfl⟩:=m;exact .inr ⟨g,c,f,by simp_all,r,(a.block g (JK.1 d).1 p).trans d,rest⟩
 ·obtain⟨x,w,v⟩:=q i b
  have b:=h.ins i b;exact⟨b.pub.stepF a x,b.un.stepF a w,b.hash.stepF a v⟩
theorem jg.grew {l:TypeId}{B:World}{d:Nat->Prop}(h:NX e l A C v t P U H S)(f:jg Y t.length P U H)(b:li Y d A B):jg d t.length P U H:=λj c=>by
 obtain⟨k,i,g⟩:=f j c;have a:=h.ins j c;exact⟨k.grew a.pub.inside b,i.grew a.un.inside b,g.grew a.hash.inside b⟩
theorem NX.rehash {s:TypeId}(h:NX e s A C (.slice (some ⟨g,0,none⟩) n c) t P U H (λ_=>False))(m:k<t.length){l:List UInt8}(q:Rd A r l)(i:br (λk=>k=g) r):
  NX e s (A.setCell ⟨g,k*5+4,none⟩ r) C (.slice (some ⟨g,0,none⟩) n c) (t.set k ⟨(ats t k).kind,(ats t k).name,(ats t k).pub,(ats t k).un,l⟩) (upd P k (P k)) (upd U k (U k)) (upd H k r) (λ_=>False):=by
 have b:=h.ins k m;have d:=h.apv k m;exact h.put (w2:=A) rfl k m ⟨(ats t k).kind,(ats t k).name,(ats t k).pub,(ats t k).un,l⟩ (P k) (U k) r (λj u _=>h.ins j u) (λ_=>False) (λj _ _ h=>h.elim) (λj _ _ h=>h.elim) ⟨b.pub,b.un,q⟩
  ⟨d.1,d.2.1,λD o x n' B e y w=>i x n' B e y (by cases o;exact w)⟩ (λh=>h.elim) (λh=>h.elim) (λj _ _ h=>h.elim) (λh=>h.elim) 4 [r] (by simp) (λz p=>by
   simp at p;subst p;obtain⟨a,c,e,_⟩:=q.shape;rw[e];rfl) (λf v=>by
   match f,v with
   | 0,_=>rfl
   | 1,_=>rfl
   | 2,_=>rfl
   | 3,_=>rfl
   | 4,_=>rfl)
theorem jg.upd (h:jg Z N P U H)(b:br Z r)(c:k<N):jg Z N (upd P k (P k)) (upd U k (U k)) (upd H k r):=λj a=>by
 by_cases e:j=k
 ·subst e
  rw[dI,dI,dI];exact⟨(h j a).1,(h j a).2.1,b⟩
 ·rw[dB _ _ e,dB _ _ e,dB _ _ e]
  exact h j a
theorem rL (v:Value)(l:List UInt8)(w:World)(h:Rd w v l)(s:l.length<=1099511627776):
  Calls prog 109 #[v] w λe w'=>∃ u,e=.returned u/\Ow 5 w' w.heap.size u l/\Kp w w':=by
 have U:=aj
 have q:∀ (w:World) (a:Option Addr) (n c n' j:Nat),(binOp .eql 24 (.slice a n c) (.slice none n' j)).run prog w=.ok (.bool a.isNone) w:=λw a n c n' j=>Lib.run_eql_slice_nil w _ _ a n c n' j underlying24
 obtain⟨a,c,rfl,t,r,b,g⟩:=id h
 cases a with
 | none=>
  have i:=b rfl
  have f:l=[]:=Kg (by omega)
  subst f i
  go_enter func109,ntmps109
  go_wp2_with fail
  go_ret
  exact⟨_,rfl,NR _ _ _,NQ _⟩
 | some a=>
  go_enter func109,ntmps109
  go_wp2_with(at_builtin;refine bw U rfl _ _ rfl w.heap.size _ [] rfl (NT w _ _ 0 #[] [] (JO _) rfl (by omega) rfl) _ l rfl (h.kp ((NQ _).alloc _)) ?c1 ?c2 ?_;rotate_right;intro p w2 d o _)
  case c1=>simp;omega
  case c2=>simp
  go_ret
  exact⟨_,rfl,by simpa using d,NS (v:=.slice (some ⟨w.heap.size,0,none⟩) 0 0) ((NQ _).alloc _) o (by intro k m;simp[Value.ownBlock] at m;omega)⟩
section
variable {F : Fence} {n : Nat} {P : Program} {ops : Array Oper} {Q : Exit -> Act -> World -> Prop} {md : Region.Mode} {S : World -> Prop}
structure gN (P:Program)(ops:Array Oper)(S:World->Prop)(o:Oper)(v:Value)(a:Act):Prop where
 nodefer:∀ c,o.op≠.defer c
 about:∀ w,o.about P w a.eval=none
 yields:(Region.wanted o (yielded ops a.tmps)=true/\∀ w,S w->(execOp a.eval o).run P w=.ok (.value v) w)\/(Region.wanted o (yielded ops a.tmps)=false/\v=undef)
def po (ops:Array Oper):Bool:=ops.all λo=>match o.op with|.defer _=>false|_=>true
theorem Cn (h:po ops=true)(a:ops[j]?=some o):∀ c,o.op≠.defer c:=λc e=>by
 have:=Mg.1 h o (Array.mem_of_getElem? a);rw[e] at this;cases this
theorem gN.put (h:gN P ops S o v a)(e:∀ cs b,o.op≠.select cs b)(u:Value)(c:∀ d,oj.dst=some d->d∉o.looksAt ops):gN P ops S o v (a.put oj.dst u):=by
 obtain⟨i,g,f⟩:=h;refine⟨i,λw=>(about_put o w a oj.dst u c).trans (g w),?_⟩;rw[wanted_put o a oj.dst u c,execOp_put o e a oj.dst u c];exact f
theorem gN.run {K:Act->World->Prop}(h:gN P ops S o v a)(e:ops[i]?=some o)(g:S w)(d:K (a.put o.dst v) w):wpOpIn F n P ops Q i K a w:=by
 have b:∀ f,o.about P w a.eval=some f->F.fn f:=λf c=>by rw[h.about w] at c;cases c
 unfold wpOpIn;simp only[e];rcases h.yields with⟨hw,hv⟩|⟨hw,rfl⟩
 ·rw[if_pos hw]
  exact⟨b,by rw[Oper.semAt_plain F _ _ h.nodefer,hv w g];exact d⟩
 ·rw[if_neg (by rw[hw];decide)]
  exact⟨b,d⟩
theorem gN.later {K:Act->World->Prop}(h:gN P ops S o v a)(y:po ops=true)(t:Region.noSelect ops=true)(J:ops[i]?=some o)(z:ops[j]?=some oj)
  (A:o.apart ops oj=true) (B:∀ c a w,Q (.panic c) (a.put o.dst v) w->Q (.panic c) a w) (q:wpOpIn F n P ops Q j K (a.put o.dst v) w):
  wpOpIn F n P ops Q j (λG w'=>gN P ops S o v G/\K (G.put o.dst v) w') a w:=by
 obtain⟨p1,p2,C⟩:=Oper.apart_spec A;have x:=λcs b=>Region.noSelect_spec t j oj cs b z
 have s:=λcs b=>Region.noSelect_spec t i o cs b J
 have E:=Cn y z;have g:∀ u w',K ((a.put o.dst v).put oj.dst u) w'->gN P ops S o v (a.put oj.dst u)/\K ((a.put oj.dst u).put o.dst v) w':=λu w' I=>⟨h.put s u C,by rw[<-Act.put_comm a v u p2];exact I⟩
 unfold wpOpIn at *;simp only[z] at *;rw[wanted_put oj a o.dst v p1,about_put oj w a o.dst v p1] at q;by_cases D:Region.wanted oj (yielded ops a.tmps)=true
 ·rw[if_pos D] at q ⊢
  unfold Oper.wpIn at *;rw[Oper.semAt_plain F _ _ E,about_put oj w a o.dst v p1,execOp_put oj x a o.dst v p1] at q;refine⟨q.1,?_⟩;rw[Oper.semAt_plain F _ _ E];have k:=q.2;obtain⟨r,H⟩:∃ r,(execOp a.eval oj).run P w=r:=⟨_,rfl⟩;rw[H] at k ⊢;match r,k with
  | .ok (.value u) w',k=>exact g u w' k
  | .ok .skip w',k=>exact g undef w' k
  | .ok (.defer d) w',k=>
   refine⟨gN.put (a:={ a with defers:=d :: a.defers }) (oj:=oj) ⟨h.nodefer,h.about,h.yields⟩ s undef C,?_⟩;rw[<-Act.put_comm _ v undef p2,<-Act.put_defers];exact k
  | .ok (.enter f args) w',k=>
   refine⟨k.1,k.2.mono λe p m=>?_⟩;match e,m with
   | .returned u,m=>exact g u p m
   | .panicked c,m=>exact B _ _ _ m
   | .outgrown,m=>exact m
  | .ok (.row row args) w',k=>exact⟨k.1,k.2.mono λu p m=>g u p m⟩
  | .ok (.round l f tmps assign body) w',k=>
   refine⟨k.1,k.2.mono λe p m=>?_⟩;match e,m with
   | .returned u,m=>exact g u p m
   | .panicked c,m=>exact B _ _ _ m
   | .outgrown,m=>exact m
  | .halt (.panic u) w',k=>exact B _ _ _ k
 ·rw[if_neg D] at q ⊢
  exact⟨q.1,g undef w q.2⟩
def bm (F:Fence)(n:Nat)(P:Program)(md:Region.Mode)(ops:Array Oper)(Q:Exit->Act->World->Prop)(S:World->Prop):Nat->Array Bool->Act->World->Prop
 | 0,listed,a,w=>Region.ready md ops listed=[]/\Q .normal a w
 | fuel+1,listed,a,w=>
  (Region.ready md ops listed=[]->Q .normal a w) /\
  ∀ i∈Region.ready md ops listed,wpOpIn F n P ops Q i (λa' w'=>S w'/\bm F n P md ops Q S fuel (listed.setIfInBounds i true) a' w') a w
theorem bm.any:∀ (fuel:Nat) (listed:Array Bool) (a:Act) (w:World),bm F n P md ops Q S fuel listed a w->wpAnyIn F n P md ops Q fuel listed a w
 | 0,_,_,_,h=>h
 | fuel+1,_,_,_,h=>⟨h.1,λi hi=>wpOpIn_mono (λa' w' h'=>bm.any fuel _ a' w' h'.2) (h.2 i hi)⟩
theorem bm.first {i:Nat}{o:Oper}{v:Value}(hnd:po ops=true)(hns:Region.noSelect ops=true)(hi:ops[i]?=some o)(hQ:∀ c a w,Q (.panic c) (a.put o.dst v) w->Q (.panic c) a w):
  ∀ (fuel:Nat) (listed:Array Bool) (a:Act) (w:World),
   (∀ j oj,ops[j]?=some oj->j≠i->listed.getD j true=false->(∀ e∈oj.after,Region.binds md e=true->e.on≠i)->o.apart ops oj=true) ->
   i∈Region.ready md ops listed->gN P ops S o v a->S w->bm F n P md ops Q S fuel (listed.setIfInBounds i true) (a.put o.dst v) w->bm F n P md ops Q S (fuel+1) listed a w
 | fuel,listed,a,w,hfree,hr,hy,hS,H=>by
  refine⟨λh=>(by rw[h] at hr;cases hr),λj hj=>?_⟩
  by_cases hji:j=i
  ·subst hji
   exact hy.run hi hS ⟨hS,H⟩
  ·have hj':=ready_mono (i:=i) hj hji
   match fuel,H with
   | 0,H=>rw[H.1] at hj';cases hj'
   | fuel+1,H=>
    obtain⟨hjun,oj,hoj,hall⟩:=mem_ready.1 hj
    have hnot:∀ e∈oj.after,Region.binds md e=true->e.on≠i:=λe he hb heq=>by
     have h1:=hall e he hb
     have h0:=(mem_ready.1 hr).1
     rw[heq] at h1
     rcases Nat.lt_or_ge i listed.size with h'|h'
     ·simp[h'] at h0 h1;rw[h0] at h1;cases h1
     ·simp[Nq h'] at h1
    refine wpOpIn_mono ?_ (hy.later hnd hns hi hoj (hfree j oj hoj hji hjun hnot) hQ (H.2 j hj'))
    rintro a' w' ⟨hy',hS',H'⟩
    refine⟨hS',bm.first hnd hns hi hQ fuel (listed.setIfInBounds j true) a' w' (λk ok hk hki hun hno=>?_) (ready_mono hr (NK hji)) hy' hS' ?_⟩
    ·refine hfree k ok hk hki ?_ hno
     by_cases hjk:j=k
     ·subst hjk;exact hjun
     ·rwa [getD_set_ne true hjk] at hun
    ·rw[Array.setIfInBounds_comm _ _ hji]
     exact H'
theorem vI (c:P.follows .mixedOrders=true)(h:bm F n P .any ops Q S ops.size (Array.replicate ops.size false) a w.drew):(Code.region b ops true).wpIn F n P Q a w:=
 wpIn_region_any c (bm.any _ _ _ _ h)
theorem bm.take (i:Nat)(v:Value){b:Array Bool}(g:ops[i]?=some o)(f:po ops=true)(e:Region.noSelect ops=true)(l:Region.free md ops b i=true)
  (k:(Region.ready md ops b).contains i=true) (p:∀ c a w,Q (.panic c) (a.put o.dst v) w->Q (.panic c) a w) (m:S w) (j:gN P ops S o v a)
  (h:bm F n P md ops Q S d (b.setIfInBounds i true) (a.put o.dst v) w):bm F n P md ops Q S (d+1) b a w:=
 bm.first f e g p d b a w (Region.free_spec g l) (by simpa using k) j m h
theorem bm.one (i:Nat){b:Array Bool}(m:ops[i]?=some o)(e:Region.ready md ops b=[i])
  (h:∀ K:Act->World->Prop,(∀ d w',S w'->bm F n P md ops Q S c (b.setIfInBounds i true) d w'->K d w')->if Region.wanted o (yielded ops a.tmps)=true then Oper.wpIn F n P o a w K Q else (∀ f,o.about P w a.eval=some f->F.fn f)/\K (a.put o.dst undef) w):
  bm F n P md ops Q S (c+1) b a w:=by
 refine⟨λq=>(by rw[q] at e;cases e),λj g=>?_⟩;rw[e] at g;obtain rfl:j=i:=by simpa using g
 exact wpOpIn_step m (λr p=>h r (λd w' l k=>p d w' ⟨l,k⟩))
theorem bm.done {b:Array Bool}(d:Region.ready md ops b=[])(h:Q .normal a w):bm F n P md ops Q S c b a w:=by
 cases c with
 | zero=>exact⟨d,h⟩
 | succ c=>exact⟨λ_=>h,λi e=>by rw[d] at e;cases e⟩
end
def fC (n:Int):Int:=if 0<=n/\n<=8160 then 0 else 1
def iS (k info:List UInt8)(n:Int):List UInt8:=if 0<=n/\n<=8160 then iR k info n.toNat else []
theorem lG (k info:List UInt8)(h:(n:Int)<=8160):fC n=0/\iS k info n=iR k info n:=by
 have:0<=(n:Int)/\(n:Int)<=8160:=by omega
 simp[fC,iS,this]
theorem kt {n:Int}(k info:List UInt8)(h:n<0\/8160<n):fC n=1/\iS k info n=[]:=by
 have:¬(0<=n/\n<=8160):=by omega
 simp[fC,iS,this]
theorem Co (n:Nat)(p a:Value)(k info:List UInt8)(w0 w:World)(g f d:Nat)(r:Kp w0 w)(o:One 24 w g (.slice (some ⟨d,0,none⟩) 64 64))(m:One 24 w f a)(l:By 5 w d (bX k))(i:Rd w a info)
  (b:k.length<=2000) (c:info.length<=1800) (q:n<=8160):
  Calls prog 169 #[.int .i64 n,.func (.func 198) #[] #[.pointer (some ⟨g,0,none⟩),.pointer (some ⟨f,0,none⟩)]] w λe w'=>(∃ v,e=.returned v/\Ow 5 w' w.heap.size v (iR k info n))/\Kp w w':=
 BZ n 255 (dC k info) _ _ (λj=>j<w.heap.size) w (jn k info) (by omega) (by omega) (enters_of func198 (by kernel_rfl) rfl) (λ_ h=>h) (Ch g f d a k info w o m l i b c)
theorem Cp (d h:Value)(k info:List UInt8)(n:Int)(w:World)(u:Rd w d k)(i:Rd w h info)(c:k.length<=2000)(g:info.length<=1800):
  Calls prog 137 #[d,h,.int .i64 n] w λe w'=>(∃ v,e=.returned (.tuple #[v,.int .i64 (fC n)])/\Ow 5 w' w.heap.size v (iS k info n))/\Kp w w':=by
 obtain⟨A,z,rfl,_,_⟩:=i.shape;by_cases l:n<0
 ·have b:=kt k info (.inl l)
  rw[b.1,b.2];have m:decide (n<0)=true:=by simp[l]
  go_enter func137,ntmps137;go_wp2_with fail;go_ret2;exact⟨⟨_,rfl,NR _ _ _⟩,NQ _⟩
 ·by_cases j:8160<n
  ·have b:=kt k info (.inr j)
   rw[b.1,b.2];have m:decide (n<0)=false:=by simp;omega
   have y:decide (8160<n)=true:=by simp[j]
   go_enter func137,ntmps137;go_wp2_with fail;go_ret2;exact⟨⟨_,rfl,NR _ _ _⟩,NQ _⟩
  ·obtain⟨n,rfl⟩:=Kc (show 0<=n by omega)
   have a:=lG k info (show(n:Int)<=8160 by omega);rw[a.1,a.2];have m:decide ((n:Int)<0)=false:=by simp
   have y:decide (8160<(n:Int))=false:=by simp;omega
   clear a;go_enter func137,ntmps137;go_wp2_with fail;refine(Cg d _ k info _ u c ⟨_,_,_,rfl⟩).mono ?_;rintro e p ⟨⟨x,rfl,s,r,q⟩,f⟩;go_wp2_with fail;refine(Co n d _ k info w p _ _ x f s r q (i.kp f) c g (by omega)).mono ?_;rintro e w2 ⟨⟨v,rfl,o⟩,t⟩;go_wp2_with fail;go_ret2;exact⟨⟨_,rfl,o.mono f.size⟩,f.trans t⟩
def Fit (t:List Nod)(i:Nat):Prop:=okP t i/\∀ j,j<i->¬((ats t i).kind=1/\(ats t j).kind=1/\(ats t i).name=(ats t j).name)
theorem Dv (o:K<=10)(m:t.length=2 ^ (K+1) - 1):fW t↔(∀ i,i<t.length->Fit t i)/\∃ i,i<t.length/\(ats t i).kind=1:=by
 constructor
 ·rintro⟨q,h⟩
  refine⟨λi f=>⟨h.ok i f,λj n d=>h.one j i n f d.2.1 d.1 d.2.2.symm⟩,h.used⟩
 ·rintro⟨g,p⟩
  exact⟨K,o,m,λx l=>(g x l).1,λx y c k a b e=>(g y k).2 x c ⟨b,a,e.symm⟩,p⟩
theorem aK.no {p:Prop}(h:¬p):aK (.returned (.bool false)) p:=⟨false,rfl,λh=>(by cases h),λe=>absurd e h⟩
def Oi:=@aK.no
theorem aK.yes {p:Prop}(h:p):aK (.returned (.bool true)) p:=⟨true,rfl,λ_=>h,λ_=>rfl⟩
theorem Dw (u:Value)(t:List Nod)(x K:Nat)(w:World)(b:NL w u t)(f:K<=10)(d:t.length=2 ^ (K+1) - 1)(a:x<t.length):
  Calls prog 76 #[u,.int .i64 (x:Int)] w λe w'=>aK e (okP t x)/\Kp w w':=by
 by_cases c:(ats t x).kind=0
 ·exact Ds u t x w b a c
 ·exact Du u t x K w b f d a c
theorem Dx (u:Value)(t:List Nod)(w:World)(Z:NL w u t)(hl:t.length<=100000):
  Calls prog 27 #[u] w λe w'=>aK e (fW t)/\Kp w w':=by
 have HL:=JE (gU u t w Z hl);have HU:=JE Z;have ap:=iY (t:=t) hl;have T:=JE (zY ((lvs t:Nat):Int) w);obtain⟨a,c,rfl,p1,s1⟩:=Z.shape;by_cases O:cH ((lvs t:Nat):Int)=true
 ·have e1:gD ((lvs t:Nat):Int)=0:=if_pos O
  have e2:gF ((lvs t:Nat):Int)=2*((lvs t:Nat):Int) - 1:=if_pos O;rw[e1,e2] at T;obtain⟨K,hK,eK⟩:=(mz _).1 O;by_cases S:t.length=2*lvs t - 1
  ·have v:t.length=2 ^ (K+1) - 1:=by rw[bi];omega
   have ak:1<=lvs t:=by have:=bE K;omega
   have eW:2*((lvs t:Nat):Int) - 1=((t.length:Nat):Int):=by omega
   have HN:Hid (∀ x W,x<t.length->Kp w W->Calls prog 76 #[.slice a t.length c,.int .i64 (x:Int)] W λe w'=>aK e (okP t x)/\Kp W w'):=λx W hx hW=>Dw _ t x K W (Z.kp hW) hK v hx
   have HI:=Dv hK v;have B:Hid ((∀ i,i<t.length->Fit t i)->(fW t↔∃ i,i<t.length/\(ats t i).kind=1)):=λh=>⟨λe=>(HI.1 e).2,λe=>HI.2 ⟨h,e⟩⟩
   have R:Hid (∀ i,i<t.length->¬Fit t i->¬fW t):=λi M h e=>h ((HI.1 e).1 i M)
   rw[eW] at T;generalize fW t=RP at *;obtain⟨N,hN⟩:∃ N,t.length=N:=⟨_,rfl⟩;rw[hN] at HU p1 HL HN B R T hl ⊢;generalize lvs t=L at *;clear Z hN HI eW e1 e2 O eK S v s1;go_enter func27,ntmps27;go_wp2_with fail;refine HL.out.mono ?_;rintro _ _ ⟨rfl,rfl⟩;go_wp2_with fail;refine T.out.mono ?_;rintro _ _ ⟨rfl,rfl⟩;clear HL T;go_wp2_with fail;go_loopw[6,7] (λm x wr=>∃ k n:Nat,k<=N/\x=.int .i64 (k:Int)/\m=.int .i64 (n:Int)/\n<=k/\(0<n↔∃ i,i<k/\(ats t i).kind=1)/\(∀ i,i<k->Fit t i)/\Kp w wr) (λ_ x _=>(N - (intOf x).toNat))
   case atStart=>exact⟨0,0,JW _,rfl,rfl,JO _,⟨λh=>by omega,fun⟨i,h,_⟩=>by omega⟩,λi h=>by omega,NQ _⟩
   case round=>
    obtain⟨k,n,hk,rfl,rfl,hn,o,A,F⟩:=hrel;by_cases C:k<N
    ·have HC:=JE (HN.out k wr C F)
     have f:=R.out k C;obtain⟨b,I,rfl,hb,hc⟩:=HU.out.at k C;have i1:IntKind.i64.wrap ((k:Int)+1)=(k:Int)+1:=JI _ (by omega);have i2:(k:Int)<(N:Int):=by omega
     have am:IntKind.i64.wrap ((n:Int)+1)=((n+1:Nat):Int):=by rw[JI _ (by omega)];omega
     have G:=JE o;have ah:=JE A;have af:=F;clear o A F HN B R;go_wp2_with fail;refine HC.out.mono ?_;rintro _ w1 ⟨⟨q,rfl,hq⟩,k1⟩;have KK:=af.trans k1;obtain⟨p,q2,h,aa⟩:=hc k C;have c0:=KK.cell aa.kind;have c1:=KK.cell aa.name;have D:Hid (∀ j,j<N->∃ X Y,X=(ats t j).kind/\Y=(ats t j).name/\w.cell? ⟨b,I+j*5,none⟩=some (.int .i64 X)/\w.cell? ⟨b,I+j*5+1,none⟩=some (.int .i64 Y)):=λj hj=>by
      obtain⟨p',q',h',ae⟩:=hc j hj;exact⟨_,_,rfl,rfl,ae.kind,ae.name⟩
     clear aa hc HC k1 af;cases q
     ·have H:=JE (f λh=>by cases hq.2 h.1)
      clear hq f;go_wp2_with fail;go_ret;exact⟨Oi H.out,KK⟩
     ·have ad:=JE (hq.1 rfl)
      clear hq;have D1:=JE (show w.cell? ⟨b,I+k*5+1,none⟩=some (.int .i64 (ats t k).name) by
       obtain⟨X,Y,eX,eY,Q,P⟩:=D.out k C;rw[P,eY])
      have D0:=JE (show w.cell? ⟨b,I+k*5,none⟩=some (.int .i64 (ats t k).kind) by
       obtain⟨X,Y,eX,eY,Q,P⟩:=D.out k C;rw[Q,eX])
      by_cases d:(ats t k).kind=1
      ·rw[d] at D0
       have HK:=JE d;rw[d] at c0;have KD:=JE KK;clear d;go_wp2_with fail;go_loopw[9] (λy wr=>∃ j:Nat,j<=k/\y=.int .i64 (j:Int)/\(∀ i,i<j->¬((ats t k).kind=1/\(ats t i).kind=1/\(ats t k).name=(ats t i).name))/\Kp w wr) (λy _=>(k - (intOf y).toNat))
       case atStart=>exact⟨0,JW _,rfl,λi h=>by omega,KD.out⟩
       case round=>
        obtain⟨j,hj,rfl,s,g⟩:=hrel;by_cases ag:j<k
        ·have i3:IntKind.i64.wrap ((j:Int)+1)=(j:Int)+1:=JI _ (by omega)
         have i4:(j:Int)<(N:Int):=by omega
         have i5:(j:Int)<(k:Int):=by omega
         obtain⟨X',Y',eX,eY,Q,P⟩:=D.out j (by omega);have Q:=g.cell Q;have P:=g.cell P;have l:Hid (¬((ats t k).kind=1/\(ats t j).kind=1/\(ats t k).name=(ats t j).name)->∀ i,i<j+1->¬((ats t k).kind=1/\(ats t i).kind=1/\(ats t k).name=(ats t i).name)):=λhe i M=>by
          rcases Kh (Kr.1 M) with r|r
          ·exact s i r
          ·rw[r];exact he
         have E:=JE g;clear g s;have d2:=E.out.cell D0.out;have d3:=E.out.cell D1.out;have HE:=JE (JN eX eY);clear eX eY;by_cases U:X'=1
         ·subst U
          by_cases J:(ats t k).name=Y'
          ·have H:=JE (f λh=>h.2 j ag ⟨HK.out,HE.out.1.symm,J.trans HE.out.2⟩)
           generalize (ats t k).name=Y at *;subst J;clear l f HE;go_wp2_with fail;go_region
           go_wp2_with fail;go_ret;exact⟨Oi H.out,E.out.drew⟩
          ·have HP:=JE (l.out λh=>J (h.2.2.trans HE.out.2.symm))
           have an:((ats t k).name==Y')=false:=JL.2 J;clear l f HE;go_wp2_with fail;go_region
           go_wp2_with fail;go_roundw
           case rel=>exact⟨j+1,by omega,by go_num,HP.out,E.out.drew⟩
           case measure=>simp[intOf];omega
         ·have HP:=JE (l.out λh=>U (HE.out.1.trans h.2.1))
          have ao:(X'==1)=false:=JL.2 U;clear l f HE;go_wp2_with fail;go_region
          go_wp2_with fail;go_roundw
          case rel=>exact⟨j+1,by omega,by go_num,HP.out,E.out.drew⟩
          case measure=>simp[intOf];omega
        ·obtain rfl:j=k:=by omega
         have HF:Hid (∀ i,i<j+1->Fit t i):=λi M=>by
          rcases Kh (Kr.1 M) with r|r
          ·exact ah.out i r
          ·subst r;exact⟨ad.out,s⟩
         have E:=JE g;have ab:Hid (0<n+1↔∃ i,i<j+1/\(ats t i).kind=1):=⟨λ_=>⟨j,by omega,HK.out⟩,λ_=>by omega⟩;clear g s f D;go_wp2_with fail;go_roundw
         case rel=>exact⟨j+1,n+1,by omega,by go_num,rfl,by omega,ab.out,HF.out,E.out⟩
         case measure=>simp[intOf];omega
      ·have HK:=JE d
       have ai:=JE d;obtain⟨X,hX⟩:∃ X,(ats t k).kind=X:=⟨_,rfl⟩;rw[hX] at D0 c0 HK d;clear hX;have aq:(X==1)=false:=JL.2 d;have KD:=JE KK;clear d;go_wp2_with fail;go_loopw[9] (λy wr=>∃ j:Nat,j<=k/\y=.int .i64 (j:Int)/\(∀ i,i<j->¬(X=1/\(ats t i).kind=1/\(ats t k).name=(ats t i).name))/\Kp w wr) (λy _=>(k - (intOf y).toNat))
       case atStart=>exact⟨0,JW _,rfl,λi h=>by omega,KD.out⟩
       case round=>
        obtain⟨j,hj,rfl,s,g⟩:=hrel;by_cases ag:j<k
        ·have i3:IntKind.i64.wrap ((j:Int)+1)=(j:Int)+1:=JI _ (by omega)
         have i4:(j:Int)<(N:Int):=by omega
         have i5:(j:Int)<(k:Int):=by omega
         obtain⟨X',Y',eX,eY,Q,P⟩:=D.out j (by omega);have Q:=g.cell Q;have P:=g.cell P;have l:Hid (¬(X=1/\(ats t j).kind=1/\(ats t k).name=(ats t j).name)->∀ i,i<j+1->¬(X=1/\(ats t i).kind=1/\(ats t k).name=(ats t i).name)):=λhe i M=>by
          rcases Kh (Kr.1 M) with r|r
          ·exact s i r
          ·rw[r];exact he
         have E:=JE g;clear g s;have d2:=E.out.cell D0.out;have HP:=JE (l.out λh=>HK.out h.1);clear l f eX eY Q P;go_wp2_with fail;go_region
         go_wp2_with fail;go_roundw
         case rel=>exact⟨j+1,by omega,by go_num,HP.out,E.out.drew⟩
         case measure=>simp[intOf];omega
        ·obtain rfl:j=k:=by omega
         have HF:Hid (∀ i,i<j+1->Fit t i):=λi M=>by
          rcases Kh (Kr.1 M) with r|r
          ·exact ah.out i r
          ·subst r;exact⟨ad.out,λz hz hc=>ai.out hc.1⟩
         have E:=JE g;have ab:Hid (0<n↔∃ i,i<j+1/\(ats t i).kind=1):=⟨λh=>by
          obtain⟨i,a1,a2⟩:=G.out.1 h;exact⟨i,by omega,a2⟩,fun⟨i,a1,a2⟩=>G.out.2 ⟨i,by
          rcases Kh (Kr.1 a1) with r|r
          ·exact r
          ·subst r;exact absurd a2 ai.out,a2⟩⟩
         clear g s f D;go_wp2_with fail;go_roundw
         case rel=>exact⟨j+1,n,by omega,by go_num,rfl,by omega,ab.out,HF.out,E.out⟩
         case measure=>simp[intOf];omega
    ·obtain rfl:k=N:=by omega
     have H:=JE (B.out A);have G:=JE o;have KK:=JE F;clear B R A o F HN;go_wp2_with fail;go_ret;refine⟨⟨_,rfl,λh=>H.out.2 (G.out.1 ?_),λh=>?_⟩,KK.out⟩
     ·have:=Ly h;omega
     ·have:=G.out.2 (H.out.1 h)
      exact Ke (by omega)
  ·have H:Hid (¬fW t):=λh=>by
    obtain⟨K',h⟩:=h;have h1:=h.lv;have h2:=h.len2;omega
   have aj:¬2*((lvs t:Nat):Int) - 1=(t.length:Int):=by
    have:1<=lvs t:=by have:=bE K;omega
    omega
   have al:(2*((lvs t:Nat):Int) - 1==(t.length:Int))=false:=JL.2 aj;generalize fW t=RP at *;generalize lvs t=L at *;generalize 2*(L:Int) - 1=V at *;clear Z HU e1 e2 O eK S;go_enter func27,ntmps27;go_wp2_with fail;refine HL.out.mono ?_;rintro _ _ ⟨rfl,rfl⟩;go_wp2_with fail;refine T.out.mono ?_;rintro _ _ ⟨rfl,rfl⟩;go_wp2_with fail;go_ret;exact⟨Oi H.out,NQ _⟩
 ·have e1:gD ((lvs t:Nat):Int)=1:=if_neg O
  have e2:gF ((lvs t:Nat):Int)=0:=if_neg O;rw[e1,e2] at T;have H:Hid (¬fW t):=λh=>by
   obtain⟨K',h⟩:=h;exact O ((mz _).2 ⟨K',h.le,by rw[h.lv]⟩)
  generalize fW t=RP at *;generalize lvs t=L at *;clear Z HU e1 e2 O;go_enter func27,ntmps27;go_wp2_with fail;refine HL.out.mono ?_;rintro _ _ ⟨rfl,rfl⟩;go_wp2_with fail;refine T.out.mono ?_;rintro _ _ ⟨rfl,rfl⟩;go_wp2_with fail;go_ret;exact⟨Oi H.out,NQ _⟩
theorem OI.own_ge (h:OI e w B v l):∀ k,v.ownBlock=some k->B<=k:=λk a=>(h.lt k a).1
theorem NO.own_ge (h:NO e w B v t):∀ k,v.ownBlock=some k->B<=k:=λk a=>(h.lt k a).1
theorem OI.lit1 (w:World)(e:TypeId)(n:Int):RI (w.alloc (.cells #[.int .i64 n] e)) (.slice (some ⟨w.heap.size,0,none⟩) 1 1) [n]:=(RI.lit w e #[.int .i64 n] [n] 1 rfl (by omega) rfl).ri
structure dz (l:List Int)(n:Int)(k:Nat)(d:Bool)(o:List Int):Prop where
 mk ::
 no:d=false->k<=gH l n/\o=l.take k
 yes:d=true->gH l n<k/\o=l.take (gH l n)++n :: (l.take k).drop (gH l n)
theorem nQ (h:k<l.length):l.getD k 0=l[k]:=by
 rw[JF,JG h];rfl
theorem dz.start (l:List Int)(n:Int):dz l n 0 false []:=⟨λ_=>⟨JW _,by simp⟩,λh=>(by cases h)⟩
theorem dz.low {n:Int}{o:List Int}(h:dz l n k false o)(a:k<l.length)(c:¬n<l.getD k 0):dz l n (k+1) false (o++[l.getD k 0]):=by
 obtain⟨e,d⟩:=h.no rfl;refine⟨λ_=>⟨?_,?_⟩,λh=>(by cases h)⟩
 ·rcases Kh e with b|b
  ·exact b
  ·exfalso
   subst b;have:=AA (l:=l) (n:=n) a;rw[nQ a] at c;exact c this
 ·rw[d,nQ a,JZ a]
theorem dz.in {n:Int}{o:List Int}(h:dz l n k false o)(a:k<l.length)(c:n<l.getD k 0):dz l n (k+1) true ((o++[n])++[l.getD k 0]):=by
 obtain⟨f,d⟩:=h.no rfl;have e:k=gH l n:=by
  rcases Kh f with b|b
  ·exfalso
   have:=Az b a;rw[nQ a] at c;omega
  ·exact b
 refine⟨λh=>(by cases h),λ_=>⟨by omega,?_⟩⟩;rw[d,<-e,nQ a,JZ a,LX (by rw[Ki];omega),List.drop_of_length_le (by rw[Ki];omega)];simp
theorem dz.high {n:Int}{o:List Int}(h:dz l n k true o)(a:k<l.length):dz l n (k+1) true (o++[l.getD k 0]):=by
 obtain⟨c,b⟩:=h.yes rfl;refine⟨λh=>(by cases h),λ_=>⟨by omega,?_⟩⟩;rw[b,nQ a,JZ a,LX (by rw[Ki];omega)];simp
theorem dz.endNo {n:Int}{o:List Int}(h:dz l n l.length false o):o++[n]=jC l n:=by
 obtain⟨b,a⟩:=h.no rfl;have:=AB l n;have e:gH l n=l.length:=by omega
 unfold jC;rw[a,e,NA]
theorem dz.endYes {n:Int}{o:List Int}(h:dz l n l.length true o):o=jC l n:=by
 obtain⟨b,a⟩:=h.yes rfl;rw[a,Kz];rfl
theorem dz.len {n:Int}{d:Bool}{o:List Int}(h:dz l n k d o)(b:k<=l.length):o.length<=k+1:=by
 cases d
 ·rw[(h.no rfl).2,Ki];omega
 ·obtain⟨c,a⟩:=h.yes rfl
  rw[a,JQ,Ka,Ki,LG,Ki];omega
theorem wQ (u:Value)(l:List Int)(n:Int)(w:World)(O:RI w u l)(hl:l.length<=100000):
  Calls prog 87 #[u,.int .i64 n] w λe w'=>(∃ r,e=.returned r/\OI 3 w' w.heap.size r (jC l n))/\Kp w w':=by
 have S:=gx;have T:=JE O;obtain⟨a,c,rfl,p1,Z⟩:=O.shape;unfold maxLen at Z;obtain⟨N,Y⟩:∃ N,l.length=N:=⟨_,rfl⟩;have j:=JE (λk o h y Q=>dz.low (l:=l) (n:=n) (k:=k) (o:=o) h y Q);have B:=JE (λk o h y Q=>dz.in (l:=l) (n:=n) (k:=k) (o:=o) h y Q);have g:=JE (λk o h y=>dz.high (l:=l) (n:=n) (k:=k) (o:=o) h y);have m:=JE (λk d o h y=>dz.len (l:=l) (n:=n) (k:=k) (d:=d) (o:=o) h y);have x:=JE (λo h=>dz.endNo (l:=l) (n:=n) (o:=o) h);have t:=JE (λo h=>dz.endYes (l:=l) (n:=n) (o:=o) h);have I:=JE (dz.start l n);rw[Y] at T p1 j B g m x t hl ⊢;generalize jC l n=ab at *;clear O Y;go_enter func87,ntmps87;go_wp2_with fail;go_loopw[5,6,7] (λv d i wr=>∃ (k:Nat) (b:Bool) (o:List Int),k<=N/\i=.int .i64 (k:Int)/\d=.bool b/\OI 3 wr w.heap.size v o/\dz l n k b o/\Kp w wr) (λ_ _ i _=>(N - (intOf i).toNat))
 case atStart=>exact⟨0,false,[],JW _,rfl,rfl,OI.nil _ _ _,I.out,NQ _⟩
 case round=>
  obtain⟨k,b,o,y,rfl,rfl,q,s,f⟩:=hrel;have aa:=m.out k b o s y;by_cases p:k<N
  ·obtain⟨g1,o1,rfl,_,G⟩:=T.out.at k p
   have h1:=f.cell (G k p);have HC:Hid (∀ W,Kp w W->W.cell? ⟨g1,o1+k,none⟩=some (.int .i64 (l.getD k 0))):=λW hW=>hW.cell (G k p)
   have i1:IntKind.i64.wrap ((k:Int)+1)=(k:Int)+1:=JI _ (by omega);have A:=j.out k o;have K:=B.out k o;have C:=g.out k o;have P:=f.size;clear G j B g m x t I;generalize l.getD k 0=X at *;cases b
   ·by_cases hx:n<X
    ·have z:=JE (K s p hx)
     clear A K C s;go_wp2_with(first
      | (at_builtin;refine gG (o:=⟨some 27,_,_,_,_,_⟩) S rfl _ _ rfl w.heap.size _ o rfl (q.kp ((NQ wr).alloc _)) _ [n] rfl (OI.lit1 wr 3 n) (by simp;omega) (by simp;omega) ?_;intro v4 J U g4;have M:Kp w J:=NS (f.alloc _) g4 q.own_ge;have h4:=HC.out J M;have V:=M.size)
      | (at_builtin;refine gG (o:=⟨some 34,_,_,_,_,_⟩) S rfl _ _ rfl w.heap.size _ (o++[n]) rfl (U.kp ((NQ J).alloc _)) _ [X] rfl (OI.lit1 J 3 X) (by simp;omega) (by simp;omega) ?_;intro L E D H;have F:Kp w E:=NS (M.alloc _) H U.own_ge))
     go_roundw
     case rel=>exact⟨k+1,true,_,by omega,by go_num,rfl,D,z.out,F⟩
     case measure=>simp[intOf];omega
    ·have z:=JE (A s p (by omega))
     clear A K C s;go_wp2_with(at_builtin;refine gG (o:=⟨some 34,_,_,_,_,_⟩) S rfl _ _ rfl w.heap.size _ o rfl (q.kp ((NQ wr).alloc _)) _ [X] rfl (OI.lit1 wr 3 X) (by simp;omega) (by simp;omega) ?_;intro L E D H;have F:Kp w E:=NS (f.alloc _) H q.own_ge)
     go_roundw
     case rel=>exact⟨k+1,false,_,by omega,by go_num,rfl,D,z.out,F⟩
     case measure=>simp[intOf];omega
   ·have z:=JE (C s p)
    clear A K C s;go_wp2_with(at_builtin;refine gG (o:=⟨some 34,_,_,_,_,_⟩) S rfl _ _ rfl w.heap.size _ o rfl (q.kp ((NQ wr).alloc _)) _ [X] rfl (OI.lit1 wr 3 X) (by simp;omega) (by simp;omega) ?_;intro L E D H;have F:Kp w E:=NS (f.alloc _) H q.own_ge)
    go_roundw
    case rel=>exact⟨k+1,true,_,by omega,by go_num,rfl,D,z.out,F⟩
    case measure=>simp[intOf];omega
  ·obtain rfl:k=N:=by omega
   have P:=f.size;clear j B g m I T;cases b
   ·have z:=JE (x.out o s)
    clear s x t;go_wp2_with(at_builtin;refine gG (o:=⟨some 40,_,_,_,_,_⟩) S rfl _ _ rfl w.heap.size _ o rfl (q.kp ((NQ wr).alloc _)) _ [n] rfl (OI.lit1 wr 3 n) (by simp;omega) (by simp;omega) ?_;intro L E D H;have F:Kp w E:=NS (f.alloc _) H q.own_ge)
    rw[z.out] at D;have R:=JE F;go_ret;exact⟨⟨_,rfl,D⟩,R.out⟩
   ·have z:=JE (t.out o s)
    clear s x t;rw[z.out] at q;have HO:=JE q;have R:=JE f;obtain⟨a5,n5,c5,rfl⟩:=q.ri.sl;clear q f;go_wp2_with fail;go_ret;exact⟨⟨_,rfl,HO.out⟩,R.out⟩
theorem wR (a:K<=10)(g:t.length=2 ^ (K+1) - 1)(b:i<2 ^ K):
  arE (2*(i:Int)) ((lvs t:Nat):Int)=0/\mC (2*(i:Int)) ((lvs t:Nat):Int)=pathT t i:=by
 have f:lvs t=2 ^ K:=by
  have:=bi K;have:=bE K;unfold lvs;omega
 have e:(2*(i:Int))=((nd 0 i:Nat):Int):=by rw[eF];omega
 obtain⟨d,c,_⟩:=tO (K:=K) (j:=0) (q:=i) a (by omega) (by simpa using b);unfold pathT lgT;rw[f,e,d,c,qW a];exact⟨rfl,rfl⟩
theorem sk (u:Value)(t:List Nod)(K i:Nat)(w:World)(f:NL w u t)(h:K<=10)(j:t.length=2 ^ (K+1) - 1)(k:i<2 ^ K):
  Calls prog 86 #[u,.int .i64 (i:Int)] w λe w'=>(∃ r,e=.returned r/\OI 3 w' w.heap.size r ((pathT t i).map fun(n:Nat)=>(n:Int)))/\Kp w w':=by
 have s:=bP h;have g:=bi K;have b:t.length<=100000:=by omega
 have p:=JE (gU u t w f b);obtain⟨m,l⟩:=wR h j k;have o:Hid (∀ W,Calls prog 48 #[.int .i64 (2*(i:Int)),.int .i64 ((lvs t:Nat):Int)] W λe w'=>(∃ v,e=.returned (.tuple #[v,.int .i64 0])/\ON 3 w' W.heap.size v (pathT t i))/\Kp W w'):=λW=>by
  have:=ww (2*(i:Int)) ((lvs t:Nat):Int) W (by have:=iY b;omega);rwa [m,l] at this
 have A:IntKind.i64.wrap (2*(i:Int))=2*(i:Int):=JI _ (by omega);obtain⟨a,c,rfl,_,_⟩:=f.shape;generalize t.length=N at *;generalize lvs t=L at *;generalize pathT t i=D at *;clear f m l h j s g k b;go_enter func86,ntmps86;go_wp2_with fail;refine p.out.mono ?_;rintro _ _ ⟨rfl,rfl⟩;clear p;go_wp2_with fail;refine(o.out _).mono ?_;rintro _ y ⟨⟨v,rfl,d⟩,q⟩;have x:=JE d.oi;obtain⟨C,z,B,rfl⟩:=d.rn.sl;clear o d;go_wp2_with fail;go_ret;exact⟨⟨_,rfl,x.out⟩,q⟩
theorem DA (u:Value)(t:List Nod)(i:Int)(w:World)(f:NL w u t)(m:t.length<=100000):
  Calls prog 155 #[u,.int .i64 i] w λe w'=>e=.returned (.bool (decide (bc t i)))/\w=w':=by
 have n:=JE (gU u t w f m);have l:=iY (t:=t) m;obtain⟨a,c,rfl,p1,B⟩:=f.shape;by_cases s:0<=i
 ·obtain⟨k,rfl⟩:=Kc s
  by_cases z:k<lvs t
  ·have d:=lQ z
   obtain⟨b,v,rfl,y,r⟩:=f.at (2*k) d;obtain⟨p,q,h,o⟩:=r (2*k) d;have E:=o.kind;have D:IntKind.i64.wrap (2*(k:Int))=((2*k:Nat):Int):=by rw[JI _ (by omega)];omega
   have C:((2*k:Nat):Int)<(t.length:Int):=by omega
   have x:(k:Int)<((lvs t:Nat):Int):=by omega
   have e:decide (bc t (k:Int))=decide ((ats t (2*k)).kind=1):=decide_eq_decide.2 ⟨λh=>by have:=h.2.2;rwa [JX] at this,λh=>⟨by omega,by omega,by rw[JX];exact h⟩⟩;rw[e];generalize (ats t (2*k)).kind=X at *;generalize lvs t=L at *;generalize t.length=N at *;generalize 2*k=F at *;clear r o f e y d;go_enter func155,ntmps155;go_wp2_with fail;refine n.out.mono ?_;rintro _ _ ⟨rfl,rfl⟩;by_cases j:X=1
   ·subst j
    go_wp2_with fail;go_ret;exact⟨rfl,rfl⟩
   ·have g:(X==1)=false:=JL.2 j
    have A:=JE (Kb j);go_wp2_with fail;go_ret;exact⟨by rw[A.out] <;> first|rfl|simp[g],rfl⟩
  ·have e:decide (bc t (k:Int))=false:=Kb λh=>by have:=h.2.1;omega
   have x:¬(k:Int)<((lvs t:Nat):Int):=by omega
   rw[e];generalize lvs t=L at *;generalize t.length=N at *;clear f e;go_enter func155,ntmps155;go_wp2_with fail;refine n.out.mono ?_;rintro _ _ ⟨rfl,rfl⟩;go_wp2_with fail;go_ret;exact⟨rfl,rfl⟩
 ·have e:decide (bc t i)=false:=Kb λh=>s h.1
  rw[e];generalize t.length=N at *;clear f e n l m;go_enter func155,ntmps155;go_wp2_with fail;go_ret;exact⟨rfl,rfl⟩
theorem lS (e:K<=10)(c:t.length=2 ^ (K+1) - 1)(d:i<2 ^ K):pathT t i=aL K 0 i/\(∀ k,k<(pathT t i).length->(pathT t i).getD k 0<t.length)/\(pathT t i).length=K:=by
 have f:lvs t=2 ^ K:=by
  have:=bi K;have:=bE K;unfold lvs;omega
 have a:pathT t i=aL K 0 i:=by
  unfold pathT lgT;rw[f,qW e]
 refine⟨a,λk b=>?_,by rw[a,mw];rfl⟩;rw[JF,JG b,c];refine eP d ?_;rw[<-a];exact Ko b
theorem pL (l:List Nat)(k:Nat)(h:k<l.length):(l.map fun(n:Nat)=>(n:Int)).getD k 0=((l.getD k 0:Nat):Int):=by
 rw[JF,KX,JG h,JF,JG h];rfl
theorem pM {α β:Type}(f:β->α->β)(b:β)(l:List α)(k:Nat)(d:α)(h:k<l.length):(l.take (k+1)).foldl f b=f ((l.take k).foldl f b) (l.getD k d):=by
 rw[JZ h,List.foldl_append,JF,JG h];rfl
theorem iZ:(prog.info? 81).map (·.size)=some 5:=by kernel_rfl
theorem DB (u:Value)(t:List Nod)(K i:Nat)(w:World)(P:NL w u t)(hK:K<=10)(hl:t.length=2 ^ (K+1) - 1)(hi:i<2 ^ K):
  Calls prog 156 #[u,.int .i64 (i:Int)] w λe w'=>(∃ r,e=.returned r/\NO 81 w' w.heap.size r (ig t i))/\Kp w w':=by
 have S:=pI;have hp:=bP hK;have Y:=bi K;have Z:=bE K;obtain⟨q1,q2,M⟩:=lS hK hl hi;have HP:=JE (λW (hW:Kp w W)=>sk u t K i W (P.kp hW) hK hl hi);have HA:=JE (fun(v:Value) (hv:∀ g,v.ownBlock=some g->w.heap.size<=g) (W:World) (hW:Kp w W)=>P.apart (v:=v) hW hv);have ab:0<t.length:=by omega
 have aa:t.length<=1000000:=by omega
 have j:=JE q2;have G:Hid (∀ k,k<(pathT t i).length->((pathT t i).take (k+1)).foldl (λo x=>o.set x aX) t=(((pathT t i).take k).foldl (λo x=>o.set x aX) t).set ((pathT t i).getD k 0) aX):=λk s=>pM _ _ _ k 0 s
 have p:Hid (((pathT t i).take 0).foldl (λo x=>o.set x aX) t=t):=rfl;have f:Hid (((pathT t i).take (pathT t i).length).foldl (λo x=>o.set x aX) t=ig t i):=by unfold Hid;rw[Kz];rfl
 have d:Hid (∀ k,(((pathT t i).take k).foldl (λo x=>o.set x aX) t).length=t.length):=λk=>uk _ _
 have m:=JE (λk h=>pL (pathT t i) k h);obtain⟨F,hF⟩:∃ F:Nat->List Nod,F=λk=>((pathT t i).take k).foldl (λo x=>o.set x aX) t:=⟨_,rfl⟩
 have C:∀ k,((pathT t i).take k).foldl (λo x=>o.set x aX) t=F k:=λk=>by rw[hF]
 simp only[C] at G p f d;generalize ig t i=ai at *;have af:Hid (((pathT t i).map fun(n:Nat)=>(n:Int)).length=K):=by unfold Hid;rw[Kw,M]
 have R:=M;generalize ad:(pathT t i).map (fun(n:Nat)=>(n:Int))=PI at *;generalize pathT t i=PT at *;obtain⟨a,c,rfl,p1,s1⟩:=P.shape;obtain⟨N,hN⟩:∃ N,t.length=N:=⟨_,rfl⟩;rw[hN] at p1 d j aa ab HP HA ⊢;rw[M] at G f j m;clear P hl q1 q2 M R hF C hp Y Z hi ad;go_enter func156,ntmps156;go_wp2_with(at_builtin;refine mH S rfl _ _ rfl w.heap.size _ [] rfl (NO.empty 81 w) _ t rfl (HA.out _ (λg hg=>by cases hg;exact JO _) _ ((NQ _).alloc _)) (by simp;omega) (by simp) ?_;intro v1 w1 q g1 _;have O:Kp w w1:=NS ((NQ _).alloc _) g1 (λk s=>by cases s;exact JO _);rw[La] at q)
 obtain⟨D,E,rfl,b1,b2,b3,b4,_⟩:=q.form (by omega);rw[hN] at q b3 ⊢;have ag:=JE O;go_wp2_with fail;refine(HP.out w1 O).mono ?_;rintro _ w2 ⟨⟨pv,rfl,U⟩,V⟩;have B:aQ (.slice (some ⟨D,0,none⟩) N E) pv:=U.apart (λg hg=>by cases hg;exact b2);have J:=JE B;have L:=U.ri;obtain⟨ap,cp,e2,p2,s2⟩:=L.shape;subst e2;rw[af.out] at L p2 J ⊢;have I:=JE L;have HO:=JE (q.kp V);have HK:=JE (O.trans V);clear HP HA q U L B O V hN;go_wp2_with fail;go_loopw[7] (λx wr=>∃ k:Nat,k<=K/\x=.int .i64 (k:Int)/\NO 81 wr w.heap.size (.slice (some ⟨D,0,none⟩) N E) (F k)/\RI wr (.slice ap K cp) PI/\Kp w wr) (λx _=>(K - (intOf x).toNat))
 case atStart=>exact⟨0,JW _,rfl,by rw[p.out];exact HO.out,I.out,HK.out⟩
 case round=>
  obtain⟨k,s,rfl,z,Q,l⟩:=hrel;by_cases b:k<K
  ·obtain⟨g1,q,rfl,_,A⟩:=Q.at k b
   have h1:=A k b;rw[m.out k b] at h1;have ah:=j.out k b;have ae:=JE (G.out k b);have aj:=d.out k;have i1:IntKind.i64.wrap ((k:Int)+1)=(k:Int)+1:=JI _ (by omega);have i3:((PT.getD k 0:Nat):Int)<(N:Int):=by omega
   have H:=JE Q;clear G d j m A p f HO I HK;generalize PT.getD k 0=X at *;go_wp2_with(refine lm iZ rfl rfl (.tmp 26) (.tmp 25) rfl w.heap.size D E N (F k) z X (by omega) aX (.slice none 0 0) (.slice none 0 0) (.slice none 0 0) rfl rfl ⟨bU _,RI.nil _,bU _⟩ (NZ _ _ _) (NZ _ _ _) (NZ _ _ _) ?_;intro w5 T g5)
   have k5:Kp w w5:=NS (v:=.slice (some ⟨D,0,none⟩) N E) l g5 (λk s=>by cases s;exact b1);have r5:=H.out.grown9 (v:=.slice (some ⟨D,0,none⟩) N E) g5 J.out;rw[<-ae.out] at T;have y:=JE (JN T (JN r5 k5));clear z Q l T g5 k5 r5 H;go_wp2_with fail;go_roundw
   case rel=>exact⟨k+1,by omega,by go_num,y.out.1,y.out.2.1,y.out.2.2⟩
   case measure=>simp[intOf];omega
  ·obtain rfl:k=K:=by omega
   rw[f.out] at z;have y:=JE (JN z l);clear G d j m f Q z l;go_wp2_with fail;go_ret;exact⟨⟨_,rfl,y.out.1⟩,y.out.2⟩
attribute [local go_sem] Oper.semAt_some
theorem xP (x n:Int)(w:World):
  Calls prog 125 #[.int .i64 x,.int .i64 n] w λe w'=>e=.returned (.func (.func 162) #[] #[.pointer (some ⟨w.heap.size,0,none⟩),.pointer (some ⟨w.heap.size+1,0,none⟩)])/\(w.alloc (.cells #[.int .i64 x] 3)).alloc (.cells #[.int .i64 n] 3)=w':=by
 go_enter func125,ntmps125;go_wp2;go_ret;exact⟨rfl,rfl⟩
theorem EI (K j q G C:Nat)(w:World)(T:K<=10)(hj:j<=K)(M:q<2 ^ (K - j))(B:w.cell? ⟨G,0,none⟩=some (.int .i64 ((nd j q:Nat):Int)))(h2:w.cell? ⟨C,0,none⟩=some (.int .i64 ((2 ^ K:Nat):Int)))(g:Tab w)(f:Nat->Nat)(F:f=λi=>nd (j+i) (q / 2 ^ i)):
  pT prog 162 #[.pointer (some ⟨G,0,none⟩),.pointer (some ⟨C,0,none⟩)] (λi v _ _=>v=#[.int .i64 ((f i:Nat):Int),.int .i64 ((f (i+1):Nat):Int)]) (K - j) (λk=>k=G\/k=C\/k=1) w:=by
 intro l J Jx W u ag af hJ ai Z h0;have c1:=u.cell B (.inl rfl);have c2:=u.cell h2 (.inr (.inl rfl));have m:=g.held u (.inr (.inr rfl));have HJ:=JE hJ;have HY:=JE Z;obtain⟨I,w2,w3⟩:=way T hj M;have HP:Hid (∀ i W,i<K - j->Tab W->Calls prog 164 #[.int .i64 ((f i:Nat):Int)] W λe w'=>e=.returned (.int .i64 ((f (i+1):Nat):Int))/\W=w'):=λi W s m=>by
  have B:=EE (j+i) (q / 2 ^ i) W (by omega) (xO T (ke M (by omega))) m;rw[<-oI] at B;rw[F];exact B
 have HR:Hid (∀ W,Calls prog 163 #[.int .i64 ((2 ^ K:Nat):Int)] W λe w'=>e=.returned (.int .i64 (((2 ^ K:Nat):Int) - 1))/\W=w'):=λW=>EF _ W (by have:=lX T;omega)
 have y:nd j q=f 0:=by rw[F];simp
 have x:∀ i,nd (j+i) (q / 2 ^ i)=f i:=λi=>by rw[F]
 simp only[x] at I w2;have W1:=JE (λi s=>(I i s).2.2);have W2:=JE w2;have ah:K - j<=10:=by omega
 rw[y] at c1;have HH:=JE u;generalize ((2 ^ K:Nat):Int)=N at *;clear hJ Z I w2 w3 F y x B h2 g u M;refine(callsIn_wide (n:=5)).1 ?_;refine callsIn_of_wp func162 rfl trivial ?_ rfl;simp only[ntmps162,Lj,Lr,Lk,Ka,Kf,Nat.reduceAdd,Nat.reduceSub,Lg,Lh,Lq,La,Ll];gi_wp2
 gi_loopw [4] (λp wr=>∃ (i:Nat) (Y:Nat->Prop),i<=K - j/\p=.int .i64 ((f i:Nat):Int)/\wr.cell? ⟨C,0,none⟩=some (.int .i64 N)/\Tab wr/\aR (λk=>k=G\/k=C\/k=1) w wr/\J i Y wr/\(∀ k,Y k->W.heap.size<=k/\k<wr.heap.size)/\W.heap.size<=wr.heap.size) (λp _=>30 - lev (intOf p).toNat)
 case atStart=>exact⟨0,_,by omega,rfl,c2,m,HH.out,h0,λ_ h=>h.elim,JO _⟩
 case round=>
  clear c1 c2 m h0;obtain⟨i,Y,s,rfl,Q,m,t,r,b,ab⟩:=hrel;have ad:prog.follows .mixedOrders=true:=by kernel_rfl
  have ae:prog.follows .lateStores=true:=by kernel_rfl
  have a:=W2.out i s;by_cases d:i<K - j
  ·have o:¬((f i:Nat):Int)=N - 1:=λh=>by have:=a.1 h;omega
   have R:(((f i:Nat):Int) != N - 1)=true:=Lt.2 o;obtain⟨fn,tmps,H,aa,X,S⟩:=HY.out i Y wr #[.int .i64 ((f i:Nat):Int),.int .i64 ((f (i+1):Nat):Int)] 4 d r b t rfl;have U:=JE (JN (W1.out i s) (W1.out (i+1) (by omega)));have D:=JE m;clear a o;gi_wp2_with (first|(refine⟨trivial,?_⟩;gi_at_call 163;refine(callsIn_wide.2 (HR.out _)).mono ?_;rintro _ _ ⟨rfl,rfl⟩)|(refine⟨trivial,?_⟩;gi_at_call 164;refine(callsIn_wide.2 (HP.out i _ d D.out)).mono ?_;rintro _ _ ⟨rfl,rfl⟩))
   refine S.mono ?_;rintro e w2 ⟨c,(⟨rfl,O⟩|⟨rfl,L⟩)⟩
   ·have P:=c.cell Q (.inr (.inr (.inl rfl)))
    have A:=D.out.held c (.inr (.inr (.inr rfl)));have E:=JE A;have V:=JE (t.trans (c.mono (λ_ h=>.inr h)));clear X S A;gi_wp2_with (refine⟨trivial,?_⟩;gi_at_call 164;refine(callsIn_wide.2 (HP.out i _ d E.out)).mono ?_;rintro _ _ ⟨rfl,rfl⟩)
    go_roundw
    case rel=>exact⟨i+1,Y,by omega,rfl,P,E.out,V.out,O,λk h=>⟨(b k h).1,JV (b k h).2 c.size⟩,by have:=c.size;omega⟩
    case measure=>have:=U.out;simp[intOf];omega
   ·clear X S
    gi_wp2
    refine bodyPost_ret (results_none rfl _ _ _) rfl ?_;exact⟨⟨_,rfl⟩,Y,λk h=>⟨(b k h).1,JV (b k h).2 c.size⟩,.inr ⟨i,d,L⟩⟩
  ·obtain rfl:i=K - j:=by omega
   have z:((f (K - j):Nat):Int)=N - 1:=a.2 rfl;have R:(((f (K - j):Nat):Int) != N - 1)=false:=by rw[z];simp
   clear z a;gi_wp2_with (refine⟨trivial,?_⟩;gi_at_call 163;refine(callsIn_wide.2 (HR.out _)).mono ?_;rintro _ _ ⟨rfl,rfl⟩)
   go_end0
   exact⟨⟨_,rfl⟩,Y,b,.inl r⟩
theorem sN (A:World):Kp A A.drew:=Kp.drew (a:=A) (b:=A) (NQ A)
def Apt (Z:Nat->Prop)(v:Value):Prop:=∀ g,v.ownBlock=some g->¬Z g
theorem sO {f:World}{xs:List Value}(h:A.ownsRow b e 1 v k xs)(i:az Y A f)(j:Apt Y v):f.ownsRow b e 1 v k xs:=by
 refine⟨h.1,?_⟩;rcases h.2 with l|⟨g,c,a,rfl,m,d,rest⟩
 ·exact .inl l
 ·exact .inr ⟨g,c,a,rfl,m,(i.block g (JK.1 d).1 (j g rfl)).trans d,rest⟩
structure fa (tS tE:TypeId)(w0:World)(R:Nat->Prop)(L:List Nat)(Y:Nat->Prop)(A:World)(v:Value):Prop where
 box:Boxed A w0.heap.size tS v
 own:ON tE A w0.heap.size v L
 apt:Apt (λk=>Y k\/R k) v
 kp:Kp w0 A
theorem fa.minds {o p:TypeId}(r:w0.heap.size<n):ed n (λY A=>∃ v,fa o p w0 R L Y A v):=by
 rintro Y s A t ⟨v,m,l,e,j⟩ f b d;have c:¬Y w0.heap.size:=λh=>by have:=f _ h;omega
 refine⟨v,(b.block _ m.lt c).trans m,sO l b (λg d h=>e g d (.inl h)),λg a h=>?_,Below.trans j (b.below j.size (λk q=>by have:=f k q;omega))⟩;rcases h with h|h
 ·rcases d g h with i|i
  ·exact e g a (.inl i)
  ·have:=(KU l g a).2;omega
 ·exact e g a (.inr h)
theorem fa.next {j i:TypeId}(l:j≠i){x:Nat}{a:World}{c:Value}{d:Obj}
  (h:fa j i w0 R L Y A v) (z:w0.heap.size<A.heap.size) (f:∀ k,Y k\/R k->k≠w0.heap.size/\k<A.heap.size)
  (w:ON i a w0.heap.size c (L++[x])) (r:(A.alloc d).grownBy a v.ownBlock) (m:c.ownBlock=v.ownBlock\/c.ownBlock=some (A.alloc d).heap.size):
  a.cell? ⟨w0.heap.size,0,none⟩=some v/\a.frozen? ⟨w0.heap.size,0,none⟩=false/\fa j i w0 R (L++[x]) Y (a.setCell ⟨w0.heap.size,0,none⟩ c) c/\aR (λk=>Y k\/R k) A (a.setCell ⟨w0.heap.size,0,none⟩ c):=by
 obtain⟨o,u,t,_,n⟩:=Boxed.appended h.box l h.own (by omega) (JO _) w r;refine⟨o.cell,o.frozen,⟨u,t,λg b p=>?_,Below.trans h.kp (n.mono (JO _))⟩,⟨?_,λk y q=>?_⟩⟩
 ·rcases m with e|e
  ·exact h.apt g (e▸b) p
  ·have s:=f g p
   rw[e] at b;simp at b;omega
 ·have:=n.size;omega
 ·have s:=f k q
  refine(Below.heap_setCell a _ _ k (λe=>s.1 (by simpa using e))).trans ((r.block k (by simp;omega) (λe=>?_)).trans (Below.heap_alloc A _ k y));exact h.apt k e.symm q
theorem bm.two {P:Program}{c:Array Oper}{g:Region.Mode}{S:World->Prop}(i j:Nat){u:Oper}{b:Array Bool}(v:c[i]?=some o)(t:c[j]?=some u)(m:Region.ready g c b=[i,j])
  (y:∀ K:Act->World->Prop,(∀ e w',S w'->bm F n P g c Q S d (b.setIfInBounds i true) e w'->K e w')->if Region.wanted o (yielded c a.tmps)=true then Oper.wpIn F n P o a w K Q else (∀ f,o.about P w a.eval=some f->F.fn f)/\K (a.put o.dst undef) w)
  (x:∀ K:Act->World->Prop,(∀ e w',S w'->bm F n P g c Q S d (b.setIfInBounds j true) e w'->K e w')->if Region.wanted u (yielded c a.tmps)=true then Oper.wpIn F n P u a w K Q else (∀ f,u.about P w a.eval=some f->F.fn f)/\K (a.put u.dst undef) w):
  bm F n P g c Q S (d+1) b a w:=by
 refine⟨λz=>(by rw[z] at m;cases m),λk s=>?_⟩;rw[m] at s;have p:k=i\/k=j:=by simpa using s
 rcases p with rfl|rfl
 ·exact wpOpIn_step v (λr q=>y r (λe w' l h=>q e w' ⟨l,h⟩))
 ·exact wpOpIn_step t (λr q=>x r (λe w' l h=>q e w' ⟨l,h⟩))
theorem EJ {P:Program}{d:TypeId}(S:bM P d e)(l:d≠e){D:Act->World->Prop}(s y:Operand)(x:Nat)
  (m:o.op=.call { callee:=.builtin .append,args:=#[s,y],argTypes:=#[d,d] }) (M:a.eval s=v) (q:fa d e w0 R L Y A v) (K:a.eval y=.slice (some ⟨A.heap.size,0,none⟩) 1 1) (X:L.length<=1000)
  (t:∀ k,Y k\/R k->k≠w0.heap.size/\k<A.heap.size)
  (T:∀ g c h,h.cell? ⟨w0.heap.size,0,none⟩=some v->h.frozen? ⟨w0.heap.size,0,none⟩=false->fa d e w0 R (L++[x]) Y (h.setCell ⟨w0.heap.size,0,none⟩ (.slice (some ⟨g,0,none⟩) (L.length+1) c)) (.slice (some ⟨g,0,none⟩) (L.length+1) c) ->
   aR (λk=>Y k\/R k) A (h.setCell ⟨w0.heap.size,0,none⟩ (.slice (some ⟨g,0,none⟩) (L.length+1) c))->D (a.put o.dst (.slice (some ⟨g,0,none⟩) (L.length+1) c)) h):
  Oper.wpIn F n P o a (A.alloc (.cells #[iv x] e)) D Q:=by
 obtain⟨i,z,O,J,f,r,j⟩:=S.hi;have w:w0.heap.size<A.heap.size:=q.box.lt;have b:=ON.kp q.own ((NQ A).alloc (.cells #[iv x] e));unfold ON at b;rw[Kw] at b;obtain⟨W,h,N,C,V,_,U⟩:=run_append_own_at (P:=P) _ w0.heap.size d o.type e i z 1 i.bytes S.ht O J f rfl j (by decide) v L.length (L.map iv) b ⟨A.heap.size,0,none⟩ 1 1 [iv x] rfl (cell_one_new A _ _) (by intro u B;simp at B;subst B;rfl) (by unfold maxLen;omega) (by have:=LS (show L.length+1<=1001 by omega) r;omega) (by simp;omega);obtain⟨g,c,rfl⟩:=ownsRow_succ C;obtain⟨I,H,G,E⟩:=fa.next l q w t (x:=x) (by unfold ON;rw[LL,JQ,Kw];exact C) V U;unfold Oper.wpIn;refine⟨by simp[Oper.about,m,resolve,Target.leads,Sem.run_pure],?_⟩;rw[Oper.semAt_plain F _ _ (by rw[m];intro c p;cases p)];simp[execOp,m,resolve,invoke,builtin,M,K,N,Result.andThen];exact T _ _ _ I H G E
theorem fa.on {a b:TypeId}{c:World}(h:fa a b w0 R L Y A v)(k:Kp A c):fa a b w0 R L Y c v:=
 ⟨(k.block _ h.box.lt).trans h.box,ON.kp h.own k,h.apt,Below.trans h.kp (k.mono h.kp.size)⟩
theorem sP {P:Program}{b:TypeId}(S:bM P b e)(f:b≠e){i:Act->World->Prop}(s y:Operand)(x:Nat)
  (m:o.op=.call { callee:=.builtin .append,args:=#[s,y],argTypes:=#[b,b] }) (p:fa b e w0 R L Y A v) (q:L.length<=1000)
  (h:∀ k,Y k\/R k->k≠w0.heap.size/\k<A.heap.size) (l:a.eval s=v) (j:a.eval y=.slice (some ⟨A.heap.size,0,none⟩) 1 1)
  (r:∀ g c d,d.cell? ⟨w0.heap.size,0,none⟩=some v->d.frozen? ⟨w0.heap.size,0,none⟩=false->fa b e w0 R (L++[x]) Y (d.setCell ⟨w0.heap.size,0,none⟩ (.slice (some ⟨g,0,none⟩) (L.length+1) c)) (.slice (some ⟨g,0,none⟩) (L.length+1) c) ->
   aR (λk=>Y k\/R k) A.drew (d.setCell ⟨w0.heap.size,0,none⟩ (.slice (some ⟨g,0,none⟩) (L.length+1) c))->i (a.put o.dst (.slice (some ⟨g,0,none⟩) (L.length+1) c)) d):
  Oper.wpIn F n P o a (A.alloc (.cells #[.int .i64 (x:Int)] e)).drew i Q:=
 EJ S f s y x m l (p.on (NQ A).drew) j q h r
theorem pU:34≠3:=by decide
theorem xQ (K j q:Nat)(x n:Int)(W:World)(a:x=((nd j q:Nat):Int))(c:n=((2 ^ K:Nat):Int))(f:K<=10)(d:j<=K)(b:q<2 ^ (K - j))(e:Tab W):
  pT prog 162 #[.pointer (some ⟨W.heap.size,0,none⟩),.pointer (some ⟨W.heap.size+1,0,none⟩)] (λi v _ _=>v=#[.int .i64 ((nd (j+i) (q / 2 ^ i):Nat):Int),.int .i64 ((nd (j+(i+1)) (q / 2 ^ (i+1)):Nat):Int)]) (K - j) (λk=>k=W.heap.size\/k=W.heap.size+1\/k=1) ((W.alloc (.cells #[.int .i64 x] 3)).alloc (.cells #[.int .i64 n] 3)):=by
 subst a c;refine EI K j q W.heap.size (W.heap.size+1) _ f d b ?_ ?_ ((e.kp ((NQ _).alloc _)).kp ((NQ _).alloc _)) _ rfl
 ·exact((Boxed.new W 3 (.int .i64 ((nd j q:Nat):Int))).alloc _).cell
 ·have:=(Boxed.new (W.alloc (.cells #[.int .i64 ((nd j q:Nat):Int)] 3)) 3 (.int .i64 ((2 ^ K:Nat):Int))).cell
  rwa [JY] at this
theorem xR (K j q:Nat)(w:World)(Q:K<=10)(hj:j<=K)(hq:q<2 ^ (K - j))(hT:Tab w):
  Calls prog 92 #[.int .i64 ((nd j q:Nat):Int),.int .i64 ((2 ^ K:Nat):Int)] w λe w'=>(∃ v,e=.returned (.tuple #[v,.int .i64 0])/\ON 3 w' w.heap.size v (aL K j q))/\Kp w w':=by
 have S:=gx;obtain⟨i0,z0,ag,af,ae,ad,ab⟩:=S.hi;have I:=(iF ((nd j q:Nat):Int) ((2 ^ K:Nat):Int)).2 ⟨K,j,q,Q,rfl,rfl,hj,hq⟩;have HN:=JE (oM ((nd j q:Nat):Int) ((2 ^ K:Nat):Int));rw[I] at HN;obtain⟨X,hX⟩:∃ X:Int,X=((nd j q:Nat):Int):=⟨_,rfl⟩;obtain⟨N,hN⟩:∃ N:Int,N=((2 ^ K:Nat):Int):=⟨_,rfl⟩;rw[<-hX,<-hN] at HN ⊢;have HU:=JE (λW am=>xQ K j q X N W hX hN Q hj hq am);have U:Hid (∀ i,i<K - j->(aL K j q).take (i+1)=(aL K j q).take i++[nd (j+(i+1)) (q / 2 ^ (i+1))]):=λi Z=>by
  rw[show j+(i+1)=j+1+i by omega];exact tG K j q i Z
 have HE:Hid ((aL K j q).take (K - j)=aL K j q):=Ku (by rw[mw];omega);have aq:Hid (∀ i,((aL K j q).take i).length<=1000):=λi=>by rw[Ki,mw];omega
 obtain⟨f,hf⟩:∃ f:Nat->Nat,f=λi=>nd (j+i) (q / 2 ^ i):=⟨_,rfl⟩
 have J:∀ i,nd (j+i) (q / 2 ^ i)=f i:=λi=>by rw[hf]
 simp only[J] at HU U;generalize aL K j q=PL at *;generalize K - j=D at *;clear hX hN I hq hj Q hf J;refine(callsIn_wide (n:=4)).1 ?_;refine callsIn_of_wp_marks func92 rfl trivial ?_ rfl;refine wpIn_wide.2 ?_;simp only[ntmps92,Lj,Lk,Kf,Ka,Nat.reduceAdd,Nat.reduceSub,Lg,Lh,Lq,La,Ll];go_wp2_with fail;refine(HN.out _).mono ?_;rintro _ _ ⟨rfl,rfl⟩;go_wp2_with fail;obtain⟨a,d⟩:∃ a,w.alloc (.cells #[.slice none 0 0] 34)=a:=⟨_,rfl⟩;rw[d];have s:Boxed a w.heap.size 34 (.slice none 0 0):=by rw[<-d];exact Boxed.new _ _ _
 have k1:Kp w a:=by rw[<-d];exact(NQ _).alloc _
 have G:a.heap.size=w.heap.size+1:=by rw[<-d];simp
 refine(xP _ _ _).mono ?_;rintro _ T ⟨rfl,m⟩;have k2:Kp a T:=by rw[<-m];exact((NQ _).alloc _).alloc _
 have F:T.heap.size=a.heap.size+2:=by rw[<-m];simp
 have aj:Boxed T w.heap.size 34 (.slice none 0 0):=(k2.block _ s.lt).trans s;have z:=HU.out a (hT.kp k1);rw[m] at z;have aa:=Below.trans k1 (k2.mono (by omega));have av:=hT.lt;have p:=JE z;have V:=JE (JN G F);clear d m s HU k1 k2 z HN G F;go_wp2_with fail;have hE:∀ args w,(callFunc 162 args).run prog w=.ok (.enter 162 args) w:=enters_of func162 (by kernel_rfl) rfl;obtain⟨R,hR⟩:∃ R:Nat->Prop,(λk=>k=a.heap.size\/k=a.heap.size+1\/k=1)=R:=⟨_,rfl⟩;have O:∀ k,R k->w.heap.size<k/\k<T.heap.size\/k<w.heap.size:=λk r=>by have:=V.out;rw[<-hR] at r;rcases r with rfl|rfl|rfl <;> omega
 rw[hR] at p;clear hR;refine sM (gf:=162) (lb:=#[.pointer (some ⟨a.heap.size,0,none⟩),.pointer (some ⟨a.heap.size+1,0,none⟩)]) rfl hE (NQ T) (λk r=>by have:=O k r;have:=V.out;omega) p.out ?sz
   (λi Y A=>∃ v,fa 34 3 w R (PL.take i) Y A v) (λc i Y A=>False) ?mI ?mIx ?TT ?h0
   (λv a' _=>∃ x y:Int,v=#[.int .i64 x,.int .i64 y]/\a'={ tmps:=#[.int .i64 X,.int .i64 N,undef,undef,.slice none 0 0,.int .i64 0,.pointer (some ⟨w.heap.size,0,none⟩),undef,.int .i64 y,.int .i64 X,.int .i64 N,.bool true,.bool false,.int .i64 X,.int .i64 N,.func (.func 162) #[] #[.pointer (some ⟨a.heap.size,0,none⟩),.pointer (some ⟨a.heap.size+1,0,none⟩)],.int .i64 x,.int .i64 y,undef,undef,undef,undef,undef],defers:=[] })
   (λ_ _ _ _ _ _ h _ _=>h) ?assign ?body ?done ?stop
 case h0=>exact⟨_,aj,by rw[LZ];exact ON.nil _ _ _,(λg hg=>by cases hg),aa⟩
 case sz=>intro i v Y A h;rw[h];rfl
 case mI=>intro i;exact fa.minds (by have:=V.out;omega)
 case mIx=>intro c i Y Y' A A' h;exact h.elim
 case TT=>intro i v Yi Y A A' l o h _ _ _ _ _;exact h
 case assign=>
  intro l i Y Yi v A Kk hI t Q;subst t;gi_wp2
  exact Q _ _ (NQ _) ⟨_,_,rfl,rfl⟩
 case body=>
  rintro l i Y v a' A Z ⟨u,b⟩ B P t ⟨x,y,C,rfl⟩;subst t;simp only[Array.mk.injEq,NG,Value.int.injEq,true_and,and_true] at C;obtain⟨rfl,rfl⟩:=C;have ai:=b.box.cell;have ar:((PL.take i).map iv).length<=1000:=by rw[Kw];exact aq.out i
  have ao:w.heap.size<A.heap.size:=b.box.lt;have L:∀ k,Y k\/R k->k≠w.heap.size/\k<A.heap.size:=λk r=>by
   have:=V.out;have h3:=P.size;rcases r with h|h
   ·have:=B k h;omega
   ·have:=O k h;omega
  have ap:=JE (U.out i Z);have HY:=JE L;have HC:=JE b;clear L B P b;gi_wp2_with (gi_at_builtin;refine wpListIn_append_own_at _ rfl _ _ 34 rfl w.heap.size 3 i0 z0 1 i0.bytes S.ht ag af ae rfl ab (by decide) u _ ((PL.take i).map iv) rfl (ON.kp HC.out.own ((NQ _).alloc _)) ⟨A.heap.size,0,none⟩ 1 1 [iv (f (i+1))] rfl rfl (cell_one_new A _ _) (by intro u hu;simp at hu;subst hu;rfl) (by unfold maxLen;omega) (by have:=LS (show((PL.take i).map iv).length+1<=1001 by omega) ad;omega) (by simp;omega) ?_;intro v' w1 H ah _ ak;obtain⟨gv,cv,rfl⟩:=ownsRow_succ H;obtain⟨cx,fz,cl,hd⟩:=fa.next pU HC.out ao HY.out (x:=f (i+1)) (by unfold ON;rw[LL,JQ];exact H) ah ak)
  simp only[Kw,Ki] at cl hd;rw[ap.out];exact⟨hd,_,cl⟩
 case done=>
  rintro D' Y W hD M al ⟨u,b⟩ hd;rename_i Qp Kk an
  rw[HE.out] at b;obtain⟨au,nu,cu,rfl⟩:=(ON.rn b.own).sl;have c1:=b.box.cell;simp only[Exit.inBlock,Exit.then];refine an _ _ ?_;go_wp2;have E:az (λk=>k=D') W (W.putObj D' (.deferred none)):=(NU _ W).putObj _ _ (.inr rfl);refine⟨by simp,.inl ⟨_,_,rfl,run_takeDeferred hd,?_⟩⟩;refine⟨_,results_tmp2 rfl _ _ _,⟨_,rfl,?_⟩,Below.trans b.kp (E.below b.kp.size (λk r=>by have:=V.out;omega))⟩;exact(sO b.own E (λg hg e=>by subst e;exact b.apt g hg (.inl M)))
 case stop=>intro D' c i Y W hD M al Z h;exact h.elim
theorem EK (x:Int)(w:World)(b:-9223372036854775808<=x/\x<=9223372036854775807)(a:Tab w):
  Calls prog 119 #[.int .i64 x] w λe w'=>e=.returned (.tuple #[.int .i64 (loV x),.int .i64 (hiV x)])/\Kp w w':=
 (EH x w a).mono (by rintro _ _ ⟨rfl,rfl⟩;exact⟨rfl,NQ _⟩)
def jb (t:List Nod):Nat:=if cH ((lvs t:Nat):Int)=true/\2*lvs t=t.length+1 then lvs t else 0
theorem nY (b:K<=10)(h:t.length=2 ^ (K+1) - 1):jb t=2 ^ K/\lvs t=2 ^ K:=by
 have d:=bi K;have c:=bE K;have a:lvs t=2 ^ K:=by unfold lvs;omega
 refine⟨?_,a⟩;unfold jb;rw[a,if_pos ⟨kX K b,by omega⟩]
end Go.Proofs.YthmhklmkgkfcpaaGreatDoor
namespace Go.Proofs
open Go.Shelf
def Tryz.lays189_ren:Go.Shelf.Ren:=⟨fun|189=>148|125=>183|257=>182|128=>221|129=>222|294=>212|295=>213|296=>214|297=>215|298=>216|299=>217|216=>218|300=>219|301=>220|328=>251|329=>252|330=>253|331=>254|332=>255|215=>256|343=>269|n=>n,fun|28=>34|3=>3|46=>205|0=>0|51=>247|53=>249|4=>4|183=>241|182=>240|131=>143|5=>5|9=>9|218=>270|222=>274|228=>288|229=>69|n=>n,fun|n=>n⟩
theorem Tryz.lays189:Go.Proofs.Lays.n189 Tryz.prog Tryz.lays189_ren:={
 mixed:=by kernel_rfl
 f125:=Tryz.func183.trans (congrArg some (by kernel_rfl))
 f128:=Tryz.func221.trans (congrArg some (by kernel_rfl))
 f129:=Tryz.func222.trans (congrArg some (by kernel_rfl))
 f189:=Tryz.func148.trans (congrArg some (by kernel_rfl))
 f215:=Tryz.func256.trans (congrArg some (by kernel_rfl))
 f216:=Tryz.func218.trans (congrArg some (by kernel_rfl))
 f257:=Tryz.func182.trans (congrArg some (by kernel_rfl))
 f294:=Tryz.func212.trans (congrArg some (by kernel_rfl))
 f295:=Tryz.func213.trans (congrArg some (by kernel_rfl))
 f296:=Tryz.func214.trans (congrArg some (by kernel_rfl))
 f297:=Tryz.func215.trans (congrArg some (by kernel_rfl))
 f298:=Tryz.func216.trans (congrArg some (by kernel_rfl))
 f299:=Tryz.func217.trans (congrArg some (by kernel_rfl))
 f300:=Tryz.func219.trans (congrArg some (by kernel_rfl))
 f301:=Tryz.func220.trans (congrArg some (by kernel_rfl))
 f328:=Tryz.func251.trans (congrArg some (by kernel_rfl))
 f329:=Tryz.func252.trans (congrArg some (by kernel_rfl))
 f330:=Tryz.func253.trans (congrArg some (by kernel_rfl))
 f331:=Tryz.func254.trans (congrArg some (by kernel_rfl))
 f332:=Tryz.func255.trans (congrArg some (by kernel_rfl))
 f343:=Tryz.func269.trans (congrArg some (by kernel_rfl))
 t0:=Tryz.underlying0
 a0:=Tryz.isAgg0
 z0:=Tryz.sizeOf0
 v0:=Tryz.zeroValue0
 t3:=Tryz.underlying3
 a3:=Tryz.isAgg3
 z3:=Tryz.sizeOf3
 v3:=Tryz.zeroValue3
 t4:=Tryz.underlying4
 a4:=Tryz.isAgg4
 z4:=Tryz.sizeOf4
 v4:=Tryz.zeroValue4
 t5:=Tryz.underlying5
 a5:=Tryz.isAgg5
 z5:=Tryz.sizeOf5
 v5:=Tryz.zeroValue5
 t9:=Tryz.underlying9
 a9:=Tryz.isAgg9
 z9:=Tryz.sizeOf9
 v9:=Tryz.zeroValue9
 t28:=Tryz.underlying34
 a28:=Tryz.isAgg34
 z28:=Tryz.sizeOf34
 v28:=Tryz.zeroValue34
 t46:=Tryz.underlying205
 a46:=Tryz.isAgg205
 z46:=Tryz.sizeOf205
 v46:=Tryz.zeroValue205
 t51:=Tryz.underlying247
 a51:=Tryz.isAgg247
 z51:=Tryz.sizeOf247
 v51:=Tryz.zeroValue247
 t53:=Tryz.underlying249
 a53:=Tryz.isAgg249
 z53:=Tryz.sizeOf249
 v53:=Tryz.zeroValue249
 t131:=Tryz.underlying143
 a131:=Tryz.isAgg143
 z131:=Tryz.sizeOf143
 v131:=Tryz.zeroValue143
 t182:=Tryz.underlying240
 a182:=Tryz.isAgg240
 z182:=Tryz.sizeOf240
 v182:=Tryz.zeroValue240
 t183:=Tryz.underlying241
 a183:=Tryz.isAgg241
 z183:=Tryz.sizeOf241
 v183:=Tryz.zeroValue241
 t218:=Tryz.underlying270
 a218:=Tryz.isAgg270
 z218:=Tryz.sizeOf270
 v218:=Tryz.zeroValue270
 t222:=Tryz.underlying274
 a222:=Tryz.isAgg274
 z222:=Tryz.sizeOf274
 v222:=Tryz.zeroValue274
 t228:=Tryz.underlying288
 a228:=Tryz.isAgg288
 z228:=Tryz.sizeOf288
 v228:=Tryz.zeroValue288
 t229:=Tryz.underlying69
 a229:=Tryz.isAgg69
 z229:=Tryz.sizeOf69
 v229:=Tryz.zeroValue69 }
open Go.Sort Go.RowKit in
theorem Tryz.slices_Sort_int (a b f:Nat)(c:List Int)(w:World)(i:Holds (Value.int .i64) w a b c.toArray)(d:a<w.heap.size)(g:c.length<4611686018427387904):
 Calls Tryz.prog 148 #[.slice (some ⟨a,b,none⟩) c.length f] w λe w'=>
  e=.returned (.tuple #[])/\∃ n h,w'=grow (putRow (Value.int .i64) (Sort.ahead w n) a b (c.mergeSort λx y=>decide (x<=y)).toArray) h:=Any.slices_Sort_int Tryz.lays189 a b f c w i d g
open Go.RowKit Go.Sort in
theorem Tryz.slices_Sort_int_none (p:Option Addr)(a:Nat)(w:World):
 Calls Tryz.prog 148 #[.slice p 0 a] w λe w'=>e=.returned (.tuple #[])/\w'=w:=Any.slices_Sort_int_none Tryz.lays189 p a w
def Tryz.laysnb115_ren:Go.Shelf.Ren:=⟨fun|115=>52|n=>n,fun|37=>24|4=>4|9=>9|5=>5|n=>n,fun|n=>n⟩
theorem Tryz.laysnb115:Go.Proofs.Lays.nb115 Tryz.prog Tryz.laysnb115_ren:={
 mixed:=by kernel_rfl
 f115:=Tryz.func52.trans (congrArg some (by kernel_rfl))
 t4:=Tryz.underlying4
 a4:=Tryz.isAgg4
 z4:=Tryz.sizeOf4
 v4:=Tryz.zeroValue4
 t9:=Tryz.underlying9
 a9:=Tryz.isAgg9
 z9:=Tryz.sizeOf9
 v9:=Tryz.zeroValue9
 t37:=Tryz.underlying24
 a37:=Tryz.isAgg24
 z37:=Tryz.sizeOf24
 v37:=Tryz.zeroValue24
 t5:=Tryz.underlying5
 a5:=Tryz.isAgg5
 z5:=Tryz.sizeOf5
 v5:=Tryz.zeroValue5 }
theorem Tryz.bytes_Equal_all (p1 p2:Option Addr)(n c m d:Nat)(xs a:List Int)(w:World)(f:xs.length=n)(b:a.length=m)(h:Lib.BytesIn w p1 n xs)(g:Lib.BytesIn w p2 m a):
 Calls Tryz.prog 52 #[.slice p1 n c,.slice p2 m d] w λe w'=>e=.returned (.bool (Lib.bytesOf xs==Lib.bytesOf a))/\w'=w:=Any.bytes_Equal_all Tryz.laysnb115 p1 p2 n c m d xs a w f b h g
end Go.Proofs
namespace Go.Proofs.YthmhklmkgkfcpaaGreatDoor
open Go.Proofs.Tryz Go.RowKit
variable {A w w' w0:World}{B C K N b c d g i j k n:Nat}{F:Fence}{H P U:Nat->Value}{J T e:TypeId}{L:List Nat}{Q:Exit->Act->World->Prop}{R S S' Y Z:Nat->Prop}{a:Act}{cs:Array Value}{l:List Int}{o oj:Oper}{r v:Value}{t:List Nod}
attribute [local go_sem] Oper.semAt_some
theorem Gx (K j q:Nat)(w:World)(a:K<=10)(hj:j<=K)(hq:q<2 ^ (K - j))(hT:Tab w):
  Calls prog 88 #[.int .i64 ((nd j q:Nat):Int),.int .i64 ((2 ^ K:Nat):Int)] w λe w'=>(∃ v,e=.returned (.tuple #[v,.int .i64 0])/\ON 3 w' w.heap.size v (cZ K j q))/\Kp w w':=by
 have S:=gx;obtain⟨i0,z0,ay,aw,av,ar,aq⟩:=S.hi;have U:=(iF ((nd j q:Nat):Int) ((2 ^ K:Nat):Int)).2 ⟨K,j,q,a,rfl,rfl,hj,hq⟩;have HN:=JE (oM ((nd j q:Nat):Int) ((2 ^ K:Nat):Int));rw[U] at HN;obtain⟨X,hX⟩:∃ X:Int,X=((nd j q:Nat):Int):=⟨_,rfl⟩;obtain⟨N,hN⟩:∃ N:Int,N=((2 ^ K:Nat):Int):=⟨_,rfl⟩;rw[<-hX,<-hN] at HN ⊢;have HU:=JE (λW an=>xQ K j q X N W hX hN a hj hq an);have af:Hid (∀ i,i<K - j->(cZ K j q).take (i+1)=(cZ K j q).take i++[nd (j+i) (sq (q / 2 ^ i))]):=λi J=>tH K j q i J
 have ag:Hid (∀ i W,i<K - j->Calls prog 126 #[.int .i64 ((nd (j+i) (q / 2 ^ i):Nat):Int),.int .i64 ((nd (j+(i+1)) (q / 2 ^ (i+1)):Nat):Int)] W λe w'=>e=.returned (.int .i64 ((nd (j+i) (sq (q / 2 ^ i)):Nat):Int))/\W=w'):=λi W J=>by
  rw[oI];exact EG (j+i) (q / 2 ^ i) W (by omega) (xO a (ke hq (by omega)))
 have HE:Hid ((cZ K j q).take (K - j)=cZ K j q):=Ku (by rw[oH];omega);have t:Hid (∀ i,((cZ K j q).take i).length<=1000):=λi=>by rw[Ki,oH];omega
 obtain⟨f,hf⟩:∃ f:Nat->Nat,f=λi=>nd (j+i) (q / 2 ^ i):=⟨_,rfl⟩
 have Z:∀ i,nd (j+i) (q / 2 ^ i)=f i:=λi=>by rw[hf]
 obtain⟨g,L⟩:∃ g:Nat->Nat,g=λi=>nd (j+i) (sq (q / 2 ^ i)):=⟨_,rfl⟩
 have V:∀ i,nd (j+i) (sq (q / 2 ^ i))=g i:=λi=>by rw[L]
 simp only[Z,V] at HU af ag;generalize cZ K j q=PL at *;generalize K - j=D at *;clear hX hN U hq hj a hf Z L V;refine(callsIn_wide (n:=4)).1 ?_;refine callsIn_of_wp_marks func88 rfl trivial ?_ rfl;refine wpIn_wide.2 ?_;simp only[ntmps88,Lj,Lk,Kf,Ka,Nat.reduceAdd,Nat.reduceSub,Lg,Lh,Lq,La,Ll];go_wp2_with fail;refine(HN.out _).mono ?_;rintro _ _ ⟨rfl,rfl⟩;go_wp2_with fail;obtain⟨d,p⟩:∃ d,w.alloc (.cells #[.slice none 0 0] 34)=d:=⟨_,rfl⟩;rw[p];have F:Boxed d w.heap.size 34 (.slice none 0 0):=by rw[<-p];exact Boxed.new _ _ _
 have k1:Kp w d:=by rw[<-p];exact(NQ _).alloc _
 have T:d.heap.size=w.heap.size+1:=by rw[<-p];simp
 refine(xP _ _ _).mono ?_;rintro _ W2 ⟨rfl,s⟩;have k2:Kp d W2:=by rw[<-s];exact((NQ _).alloc _).alloc _
 have Q:W2.heap.size=d.heap.size+2:=by rw[<-s];simp
 have ak:Boxed W2 w.heap.size 34 (.slice none 0 0):=(k2.block _ F.lt).trans F;have H:=HU.out d (hT.kp k1);rw[s] at H;have ai:=Below.trans k1 (k2.mono (by omega));have ax:=hT.lt;have B:=JE H;have HS:=JE (JN T Q);clear p s F HU k1 k2 H HN T Q;go_wp2_with fail;have hE:∀ args w,(callFunc 162 args).run prog w=.ok (.enter 162 args) w:=enters_of func162 (by kernel_rfl) rfl;obtain⟨R,hR⟩:∃ R:Nat->Prop,(λk=>k=d.heap.size\/k=d.heap.size+1\/k=1)=R:=⟨_,rfl⟩;have ad:∀ k,R k->w.heap.size<k/\k<W2.heap.size\/k<w.heap.size:=λk C=>by have:=HS.out;rw[<-hR] at C;rcases C with rfl|rfl|rfl <;> omega
 rw[hR] at B;clear hR;refine sM (gf:=162) (lb:=#[.pointer (some ⟨d.heap.size,0,none⟩),.pointer (some ⟨d.heap.size+1,0,none⟩)]) rfl hE (NQ W2) (λk C=>by have:=ad k C;have:=HS.out;omega) B.out ?sz
   (λi Y A=>∃ v,fa 34 3 w R (PL.take i) Y A v) (λc i Y A=>False) ?mI ?mIx ?TT ?h0
   (λv a' _=>∃ x y:Int,v=#[.int .i64 x,.int .i64 y]/\a'={ tmps:=#[.int .i64 X,.int .i64 N,undef,undef,.slice none 0 0,.int .i64 0,.pointer (some ⟨w.heap.size,0,none⟩),.int .i64 x,.int .i64 y,.int .i64 X,.int .i64 N,.bool true,.bool false,.int .i64 X,.int .i64 N,.func (.func 162) #[] #[.pointer (some ⟨d.heap.size,0,none⟩),.pointer (some ⟨d.heap.size+1,0,none⟩)],.int .i64 x,.int .i64 y,undef,undef,undef,undef,undef,undef,undef],defers:=[] })
   (λ_ _ _ _ _ _ h _ _=>h) ?assign ?body ?done ?stop
 case h0=>exact⟨_,ak,by rw[LZ];exact ON.nil _ _ _,(λg L=>by cases L),ai⟩
 case sz=>intro i v Y A h;rw[h];rfl
 case mI=>intro i;exact fa.minds (by have:=HS.out;omega)
 case mIx=>intro c i Y Y' A A' h;exact h.elim
 case TT=>intro i v Yi Y A A' l o h _ _ _ _ _;exact h
 case assign=>
  intro l i Y Yi v A Kk hI G a;subst G;gi_wp2
  exact a _ _ (NQ _) ⟨_,_,rfl,rfl⟩
 case body=>
  rintro l i Y v a' A J ⟨u,m⟩ M ae G ⟨x,y,O,rfl⟩;subst G;simp only[Array.mk.injEq,NG,Value.int.injEq,true_and,and_true] at O;obtain⟨rfl,rfl⟩:=O;have E:=m.box.cell;have ap:((PL.take i).map iv).length<=1000:=by rw[Kw];exact t.out i
  have aA:w.heap.size<A.heap.size:=m.box.lt;have aa:∀ k,Y k\/R k->k≠w.heap.size/\k<A.heap.size:=λk C=>by
   have:=HS.out;have h3:=ae.size;rcases C with h|h
   ·have:=M k h;omega
   ·have:=ad k h;omega
  have I:=JE (af.out i J);have HY:=JE aa;have HC:=JE m;clear aa M ae m;have aj:prog.follows .mixedOrders=true:=by kernel_rfl
  have ah:=JE (λW=>ag.out i W J);gi_wp2
  have cd:A.drew.cell? ⟨w.heap.size,0,none⟩=some u:=E;refine vI (S:=λ_=>True) aj ?_;refine bm.take 1 (.int .i64 ((f i:Nat):Int)) rfl (by kernel_rfl) (by kernel_rfl) (by kernel_rfl) (by kernel_rfl) (λ_ _ _ h=>h) trivial ⟨λc e=>(by cases e),λ_=>rfl,.inl ⟨rfl,λW' am=>?_⟩⟩ ?_
  ·go_simp
  refine bm.take 2 (.int .i64 ((f (i+1):Nat):Int)) rfl (by kernel_rfl) (by kernel_rfl) (by kernel_rfl) (by kernel_rfl) (λ_ _ _ h=>h) trivial ⟨λc e=>(by cases e),λ_=>rfl,.inl ⟨rfl,λW' am=>?_⟩⟩ ?_
  ·go_simp
  go_simp;refine bm.two 0 3 rfl rfl (by kernel_rfl) (λb a=>?_) (λb a=>?_)
  ·go_simp
   refine a _ _ trivial ?_;clear a b;refine bm.one 3 rfl (by kernel_rfl) (λb a=>?_);go_simp;gi_wp2_with (refine⟨trivial,?_⟩;gi_at_call 126;refine(CallsIn.inRound l (callsIn_wide.2 (ah.out _))).mono ?_;rintro _ _ ⟨rfl,rfl⟩)
   refine a _ _ trivial ?_;clear a b;refine bm.one 4 rfl (by kernel_rfl) (λb a=>?_);go_simp;refine a _ _ trivial ?_;clear a b;refine bm.one 5 rfl (by kernel_rfl) (λb a=>?_);rw[if_pos (by rfl)];refine sP S pU _ _ (g i) rfl HC.out (t.out i) HY.out rfl rfl ?_;intro gv cv w1 cx fz z r;refine a _ _ trivial ?_;clear a b;refine bm.one 6 rfl (by kernel_rfl) (λb a=>?_);go_simp;refine a _ _ trivial ?_;clear a b;refine bm.done (by kernel_rfl) ?_;simp only[Ki] at z r;refine⟨(aR.of_kp (sN A)).trans r,.inl ⟨rfl,.slice (some ⟨gv,0,none⟩) (min i PL.length+1) cv,?_⟩⟩;rw[I.out];exact z
  ·go_simp
   gi_wp2_with (refine⟨trivial,?_⟩;gi_at_call 126;refine(CallsIn.inRound l (callsIn_wide.2 (ah.out _))).mono ?_;rintro _ _ ⟨rfl,rfl⟩)
   refine a _ _ trivial ?_;clear a b;refine bm.two 0 4 rfl rfl (by kernel_rfl) (λb a=>?_) (λb a=>?_)
   ·go_simp
    refine a _ _ trivial ?_;clear a b;refine bm.one 4 rfl (by kernel_rfl) (λb a=>?_);go_simp;refine a _ _ trivial ?_;clear a b;refine bm.one 5 rfl (by kernel_rfl) (λb a=>?_);rw[if_pos (by rfl)];refine sP S pU _ _ (g i) rfl HC.out (t.out i) HY.out rfl rfl ?_;intro gv cv w1 cx fz z r;refine a _ _ trivial ?_;clear a b;refine bm.one 6 rfl (by kernel_rfl) (λb a=>?_);go_simp;refine a _ _ trivial ?_;clear a b;refine bm.done (by kernel_rfl) ?_;simp only[Ki] at z r;refine⟨(aR.of_kp (sN A)).trans r,.inl ⟨rfl,.slice (some ⟨gv,0,none⟩) (min i PL.length+1) cv,?_⟩⟩;rw[I.out];exact z
   ·go_simp
    refine a _ _ trivial ?_;clear a b;refine bm.one 0 rfl (by kernel_rfl) (λb a=>?_);go_simp;refine a _ _ trivial ?_;clear a b;refine bm.one 5 rfl (by kernel_rfl) (λb a=>?_);rw[if_pos (by rfl)];refine sP S pU _ _ (g i) rfl HC.out (t.out i) HY.out rfl rfl ?_;intro gv cv w1 cx fz z r;refine a _ _ trivial ?_;clear a b;refine bm.one 6 rfl (by kernel_rfl) (λb a=>?_);go_simp;refine a _ _ trivial ?_;clear a b;refine bm.done (by kernel_rfl) ?_;simp only[Ki] at z r;refine⟨(aR.of_kp (sN A)).trans r,.inl ⟨rfl,.slice (some ⟨gv,0,none⟩) (min i PL.length+1) cv,?_⟩⟩;rw[I.out];exact z
 case done=>
  rintro D' Y W hD ab al ⟨u,m⟩ r;rename_i Qp Kk ao
  rw[HE.out] at m;obtain⟨au,nu,cu,rfl⟩:=(ON.rn m.own).sl;have c1:=m.box.cell;simp only[Exit.inBlock,Exit.then];refine ao _ _ ?_;go_wp2;have P:az (λk=>k=D') W (W.putObj D' (.deferred none)):=(NU _ W).putObj _ _ (.inr rfl);refine⟨by simp,.inl ⟨_,_,rfl,run_takeDeferred r,?_⟩⟩;refine⟨_,results_tmp2 rfl _ _ _,⟨_,rfl,?_⟩,Below.trans m.kp (P.below m.kp.size (λk C=>by have:=HS.out;omega))⟩;exact sO m.own P (λg L e=>by subst e;exact m.apt g L (.inl ab))
 case stop=>intro D' c i Y W hD ab al J h;exact h.elim
section
open Go.ChangeShapes Go.Deep Go.WideShapes
instance:Inhabited Nod:=⟨aX⟩
section
variable {H : Type} {enc : TypeId × Value -> H} {P : Program} {w : World} {base : Nat} {spare : Nat -> Bool} {held : Bool}
theorem RI.of_one {t:TypeId}{x:DataW H × List MemPlace}(g:P.underlying t=some (.slice e))(k:P.underlying e=some (.int .i64))(m:P.cellsOf e=1)
  (h:DataW.trod enc P w base spare held c t [v]=some x):∃ l,RI w v l:=by
 rcases open_ints g k m h with⟨hcs,_⟩|⟨a,len,cap,zs,hcs,_,hl,hm,hz,_,hcell,_⟩
 ·cases hcs
  exact⟨[],RI.nil w⟩
 ·cases hcs
  have d:len<=zs.length:=by rw[hz];split <;> omega
  have b:((zs.take len).map nI).length=len:=by simp;omega
  refine⟨zs.take len,some a,cap,by rw[b],by rw[b];exact hl,hm,λh=>(by cases h),λy f i j=>?_⟩;cases f;rw[b] at j;rw[hcell i (by omega)];simp[nI,JF,JG (show i<zs.length by omega)]
theorem NL.of_cells {t:TypeId}{y s r o k:Field}{F:Nat}{cs:List Value}{x:DataW H × List MemPlace}{U:TypeId}(ht:P.underlying t=some (.slice e))(he:P.underlying e=some (.struct #[y,s,r,o,k]))
  (c:oneCellFields P #[y,s,r,o,k]=true) (hC:P.cellsOf e=5) (I:P.underlying y.type=some (.int .i64)) (h1:P.underlying s.type=some (.int .i64)) (h2:P.underlying r.type=some (.slice J)) (h3:P.underlying o.type=some (.slice U)) (h4:P.underlying k.type=some (.slice J))
  (W:P.underlying J=some (.int .u8)) (E:P.cellsOf J=1) (G:P.underlying U=some (.int .i64)) (S:P.cellsOf U=1)
  (h:DataW.trod enc P w base spare held F t cs=some x):∃ v l,cs=[v]/\NL w v l:=by
 rcases open_slice ht h with⟨hcs,_⟩|⟨a,len,cap,m,n,D,Pl,hcs,_,hl,hm,hmm,_,hel⟩
 ·exact⟨_,[],hcs,NL.nil w⟩
 ·have aa:len<=m:=by rw[hmm];split <;> omega
  rw[hC] at hel;have key:∀ i,i<len->∃ nd:Nod,∃ p u q,(w.cell? (a.add (i*5))=some (.int .i64 nd.kind)/\w.cell? ((a.add (i*5)).add 1)=some (.int .i64 nd.name)/\w.cell? ((a.add (i*5)).add 2)=some p/\w.cell? ((a.add (i*5)).add 3)=some u/\w.cell? ((a.add (i*5)).add 4)=some q)/\NIn w nd p u q:=by
   intro i ab;obtain⟨V,T,N⟩:=hel i (by omega);obtain⟨_,O,d⟩:=World.cells?_some T;obtain⟨xs,n',_,_,_,L,B⟩:=Nt he N;obtain⟨o0,k0⟩:=hone_of c 0 y rfl;obtain⟨o1,k1⟩:=hone_of c 1 s rfl;obtain⟨o2,k2⟩:=hone_of c 2 r rfl;obtain⟨o3,k3⟩:=hone_of c 3 o rfl;obtain⟨o4,k4⟩:=hone_of c 4 k rfl;match V,O with
   | [c0,c1,c2,c3,c4],_=>
    have M:xs.length=5:=L;match xs,M with
    | [y0,y1,y2,y3,y4],_=>
     have g0:DataW.trod enc P w base spare held n' y.type [c0]=some y0:=by simpa [o0,k0] using B 0 y rfl
     have g1:DataW.trod enc P w base spare held n' s.type [c1]=some y1:=by simpa [o1,k1] using B 1 s rfl
     have g2:DataW.trod enc P w base spare held n' r.type [c2]=some y2:=by simpa [o2,k2] using B 2 r rfl
     have g3:DataW.trod enc P w base spare held n' o.type [c3]=some y3:=by simpa [o3,k3] using B 3 o rfl
     have g4:DataW.trod enc P w base spare held n' k.type [c4]=some y4:=by simpa [o4,k4] using B 4 k rfl
     obtain⟨n0,e0,_,_⟩:=Nu I g0;obtain⟨n1,e1,_,_⟩:=Nu h1 g1;cases e0;cases e1;obtain⟨l2,r2⟩:=Rd.of_one h2 W E g2;obtain⟨l3,r3⟩:=RI.of_one h3 G S g3;obtain⟨l4,r4⟩:=Rd.of_one h4 W E g4;refine⟨⟨n0,n1,l2,l3,l4⟩,c2,c3,c4,⟨?_,d 1 (by omega),d 2 (by omega),d 3 (by omega),d 4 (by omega)⟩,r2,r3,r4⟩;have:=d 0 (by omega);rwa [show(a.add (i*5)).add 0=a.add (i*5) by unfold Addr.add;split <;> simp_all] at this
  obtain⟨l,f,A⟩:=ue len _ key aX;refine⟨_,l,by rw[hcs,f],some a,cap,rfl,by omega,hm,λh=>(by cases h),λI=>?_⟩;rw[f] at I;obtain⟨b,K,z⟩:=a;obtain⟨p,u,q,⟨C,_⟩,_⟩:=A 0 I;have hs:z=none:=by simpa [Addr.add] using MJ C
  subst hs;refine⟨b,K,rfl,Kl w _ C,λi G=>?_⟩;rw[f] at G;obtain⟨p,u,q,⟨d0,d1,Z,Y,X⟩,R⟩:=A i G;simp only[Addr.add_mid] at d0 d1 Z Y X;refine⟨p,u,q,λj v g=>?_,R⟩;have Q:j<5:=(Ks.1 g).1;match j,Q with
  | 0,_=>cases g;exact d0
  | 1,_=>cases g;exact d1
  | 2,_=>cases g;exact Z
  | 3,_=>cases g;exact Y
  | 4,_=>cases g;exact X
end

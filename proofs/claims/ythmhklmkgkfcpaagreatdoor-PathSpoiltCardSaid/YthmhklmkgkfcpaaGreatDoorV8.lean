import Derived.Test.YthmhklmkgkfcpaaGreatDoorV7
import Derived.Maps.AppendAt
import Derived.Deep.MidRow
set_option linter.all false
set_option maxHeartbeats 8000000
set_option maxRecDepth 100000
namespace Go.Proofs.YthmhklmkgkfcpaaGreatDoor
open Go.Proofs.Tryz Go.RowKit
variable {B a b c g j k o q x:Nat}{P:Program}{Q:Exit->Act->World->Prop}{e:TypeId}{h p u v:Value}{l:List Int}{n:Nod}{t:List Nod}{w w':World}
def bV (n:Nod)(p u h:Value):List Value:=[.int .i64 n.kind,.int .i64 n.name,p,u,h]
structure NIn (w:World)(n:Nod)(p u h:Value):Prop where
 mk ::
 pub:Rd w p n.pub
 un:RI w u n.un
 hash:Rd w h n.hash
theorem NIn.kp (i:NIn w n p u h)(k:Kp w w'):NIn w' n p u h:=⟨i.pub.kp k,i.un.kp k,i.hash.kp k⟩
def NV (w:World)(v:Value)(n:Nod):Prop:=∃ p u h,v=.agg (bV n p u h).toArray/\NIn w n p u h
theorem cQ (w:World):Rd w (.slice none 0 0) []:=⟨none,0,rfl,IB _,IO _,λ_=>rfl,λx a=>by cases a⟩
theorem NV.blank (w:World):NV w (.agg #[.int .i64 0,.int .i64 0,.slice none 0 0,.slice none 0 0,.slice none 0 0]) aY:=
 ⟨_,_,_,rfl,⟨cQ w,RI.nil w,cQ w⟩⟩
def NAt (w:World)(b o:Nat)(n:Nod)(p u h:Value):Prop:=w.rangeAt b o (bV n p u h)/\NIn w n p u h
theorem NAt.kp (i:NAt w b o n p u h)(k:Kp w w'):NAt w' b o n p u h:=
 ⟨λj v a=>k.cell (i.1 j v a),i.2.kp k⟩
theorem NAt.kind (i:NAt w b o n p u h):w.cell? ⟨b,o,none⟩=some (.int .i64 n.kind):=i.1 0 _ rfl
theorem NAt.name (i:NAt w b o n p u h):w.cell? ⟨b,o+1,none⟩=some (.int .i64 n.name):=i.1 1 _ rfl
theorem NAt.pubC (i:NAt w b o n p u h):w.cell? ⟨b,o+2,none⟩=some p:=i.1 2 _ rfl
theorem NAt.unC (i:NAt w b o n p u h):w.cell? ⟨b,o+3,none⟩=some u:=i.1 3 _ rfl
theorem NAt.hashC (i:NAt w b o n p u h):w.cell? ⟨b,o+4,none⟩=some h:=i.1 4 _ rfl
def NL (w:World)(v:Value)(t:List Nod):Prop:=
 ∃ a c,v=.slice a t.length c/\t.length<=c/\c<=maxLen/\(a=none->c=0) /\
  (0<t.length->∃ b off,a=some ⟨b,off,none⟩/\b<w.heap.size/\∀ i,i<t.length->∃ p u h,NAt w b (off+i*5) (ats t i) p u h)
theorem NL.kp (h:NL w v t)(k:Kp w w'):NL w' v t:=by
 obtain⟨a,c,e,r,q,o,n⟩:=h;refine⟨a,c,e,r,q,o,λs=>?_⟩;obtain⟨b,d,m,l,j⟩:=n s;refine⟨b,d,m,II l k.size,λi f=>?_⟩;obtain⟨p,u,h,g⟩:=j i f;exact⟨p,u,h,g.kp k⟩
theorem NL.shape (h:NL w v t):∃ a c,v=.slice a t.length c/\t.length<=c/\c<=maxLen:=by
 obtain⟨a,c,e,d,b,_⟩:=h;exact⟨a,c,e,d,b⟩
theorem NL.sl (h:NL w v t):∃ a n c,v=.slice a n c:=by
 obtain⟨a,c,e,_⟩:=h;exact⟨_,_,_,e⟩
theorem NL.nil (w:World):NL w (.slice none 0 0) []:=⟨none,0,rfl,IB _,IO _,λ_=>rfl,λh=>absurd h (by simp)⟩
theorem NL.at {a:Option Addr}{n:Nat}(h:NL w (.slice a n c) t)(k:Nat)(g:k<n):
  ∃ b d,a=some ⟨b,d,none⟩/\b<w.heap.size/\∀ i,i<n->∃ p u h,NAt w b (d+i*5) (ats t i) p u h:=by
 obtain⟨q,o,e,m,l,j,f⟩:=h;simp only[IG] at e;obtain⟨rfl,rfl,rfl⟩:=e;exact f (by omega)
theorem eN (a:Addr)(n:Nat):(a.add n).block=a.block:=by unfold Addr.add;split <;> rfl
def aR (v u:Value):Prop:=∀ g,v.ownBlock=some g->∀ x n c,u=.slice (some x) n c->0<n->x.block≠g
theorem aR.nil (v:Value)(a:Option Addr)(c:Nat):aR v (.slice a 0 c):=λg b x n d e h=>by
 simp only[IG] at e;omega
theorem Rd.apart {l:List UInt8}(h:Rd w u l)(b:∀ g,v.ownBlock=some g->w.heap.size<=g):aR v u:=λg d x n c e j k=>by
 obtain⟨r,q,a,p,o,m,i⟩:=h;rw[e] at a;simp only[IG] at a;obtain⟨rfl,rfl,rfl⟩:=a;have f:=Jb w _ (i x rfl 0 j);rw[eN] at f;have:=b g d;omega
theorem RI.apart (h:RI w u l)(b:∀ g,v.ownBlock=some g->w.heap.size<=g):aR v u:=λg d x n c e j k=>by
 obtain⟨r,q,a,p,o,m,i⟩:=h;rw[e] at a;simp only[IG] at a;obtain⟨rfl,rfl,rfl⟩:=a;have f:=Jb w _ (i x rfl 0 j);rw[eN] at f;have:=b g d;omega
theorem OI.apart (h:OI e w B u l)(a:∀ g,v.ownBlock=some g->g<B):aR v u:=λg b x n c d k f=>by
 have j:=a g b;have i:=(h.lt x.block (by rw[d];rfl)).1;omega
theorem Rd.grown9 {l:List UInt8}(h:Rd w u l)(f:w.grownBy w' v.ownBlock)(j:aR v u):Rd w' u l:=by
 obtain⟨a,c,e,o,n,m,k⟩:=h;subst e;refine⟨a,c,rfl,o,n,m,λx b i d=>?_⟩;have g:=k x b i d;subst b;exact f.cell g λe=>j x.block (by rw[<-e,eN]) x _ c rfl (by first|omega|(rw[Jl] at d ⊢;omega)) rfl
theorem RI.grown9 (h:RI w u l)(f:w.grownBy w' v.ownBlock)(j:aR v u):RI w' u l:=by
 obtain⟨a,c,e,o,n,m,k⟩:=h;subst e;refine⟨a,c,rfl,o,n,m,λx b i d=>?_⟩;have g:=k x b i d;subst b;exact f.cell g λe=>j x.block (by rw[<-e,eN]) x _ c rfl (by first|omega|(rw[Jl] at d ⊢;omega)) rfl
theorem NIn.grown (i:NIn w n p u h)(a:w.grownBy w' v.ownBlock)(d:aR v p)(c:aR v u)(b:aR v h):NIn w' n p u h:=
 ⟨i.pub.grown9 a d,i.un.grown9 a c,i.hash.grown9 a b⟩
def NO (e:TypeId)(w:World)(B:Nat)(v:Value)(t:List Nod):Prop:=
 ∃ us:List Value,w.ownsRow B e 5 v t.length us/\(∀ z∈us,z.oneCell'=true) /\
  ∀ i,i<t.length->∃ p u h,(∀ f,f<5->us[i*5+f]?=(bV (ats t i) p u h)[f]?)/\NIn w (ats t i) p u h/\aR v p/\aR v u/\aR v h
theorem NO.kp (h:NO e w B v t)(k:Kp w w'):NO e w' B v t:=by
 obtain⟨us,d,c,b⟩:=h;refine⟨us,nT d k,c,λi a=>?_⟩;obtain⟨p,u,h,j,g,f⟩:=b i a;exact⟨p,u,h,j,g.kp k,f⟩
theorem NO.lt (h:NO e w B v t):∀ k,v.ownBlock=some k->B<=k/\k<w.heap.size:=by
 obtain⟨us,b,_⟩:=h;exact λk a=>Jw b k a
theorem NO.form (h:NO e w B v t)(y:0<t.length):
  ∃ g c,v=.slice (some ⟨g,0,none⟩) t.length c/\B<=g/\g<w.heap.size/\t.length<=c/\c<=maxLen /\
   ∀ i,i<t.length->∃ p u h,NAt w g (i*5) (ats t i) p u h/\aR v p/\aR v u/\aR v h:=by
 obtain⟨us,d,s,n⟩:=h;have a:=λk l=>Jw d k l
 rcases id d.2 with⟨_,hn⟩|⟨g,cap,cur,rfl,hb,hg,hn,hm,hs,ht⟩
 ·omega
 ·refine⟨g,cap,rfl,hb,(a g rfl).2,hn,hm,λi m=>?_⟩
  obtain⟨p,u,h,r,q,o⟩:=n i m;refine⟨p,u,h,⟨λj x f=>?_,q⟩,o⟩;have b:j<5:=(Jk.1 f).1;rw[d.cellAt (i*5+j) (by omega),r j b];exact f
theorem NO.nl (h:NO e w B v t):NL w v t:=by
 by_cases n:0<t.length
 ·obtain⟨g,c,rfl,k,f,b,m,l⟩:=h.form n
  refine⟨_,c,rfl,b,m,λh=>(by cases h),λ_=>⟨g,0,rfl,f,λi j=>?_⟩⟩;rw[JA];obtain⟨p,u,h,a,_⟩:=l i j;exact⟨p,u,h,a⟩
 ·have d:t=[]:=IX (by omega)
  subst d;obtain⟨us,b,_⟩:=h;rcases b.2 with⟨rfl,_⟩|⟨g,cap,cur,rfl,k,f,a,hm,hs,d⟩
  ·exact NL.nil w
  ·exact⟨_,cap,rfl,a,hm,λh=>(by cases h),λh=>absurd h (by simp)⟩
theorem NO.empty (e:TypeId)(w:World):NO e (w.alloc (.cells #[] e)) w.heap.size (.slice (some ⟨w.heap.size,0,none⟩) 0 0) []:=
 ⟨[],JW w #[] 0 (IB _) (by unfold maxLen;omega) rfl,λz a=>by simp at a,λi b=>by simp at b⟩
theorem nU (i:NIn w n p u h):∀ z∈bV n p u h,z.oneCell'=true:=by
 obtain⟨q,g,l,rfl⟩:∃ a n c,p=.slice a n c:=by obtain⟨a,c,e,_⟩:=i.pub.shape;exact⟨_,_,_,e⟩
 obtain⟨o,f,k,rfl⟩:=i.un.sl;obtain⟨m,d,j,rfl⟩:∃ a n c,h=.slice a n c:=by obtain⟨a,c,e,_⟩:=i.hash.shape;exact⟨_,_,_,e⟩
 intro z b;unfold bV at b;simp only[JP,Lk,or_false] at b;rcases b with rfl|rfl|rfl|rfl|rfl <;> rfl
theorem NO.there {n:Nat}(h:NO e w B (.slice (some ⟨g,0,none⟩) n c) t)(i:Nat)(f:i<t.length):w.there g (i*5) 5:=by
 obtain⟨us,a,l,k⟩:=h;have b:t.length=n:=by
  rcases a.2 with⟨e,_⟩|⟨g',cap,cur,e,_⟩
  ·simp at e
  ·simp only[IG] at e;exact e.2.1.symm
 subst b;intro j d;refine⟨?_,a.frozenAt _⟩;rw[a.cellAt (i*5+j) (by omega),Iy (by rw[a.1];omega)];rfl
theorem nV {e:TypeId}{B g n cap C:Nat}:∀ (vs:List Value) (o:Nat) (w:World) (xs:List Value),w.ownsRow B e C (.slice (some ⟨g,0,none⟩) n cap) n xs->o+vs.length<=xs.length ->
  ∃ ys,(w.setCells g o vs).ownsRow B e C (.slice (some ⟨g,0,none⟩) n cap) n ys/\w.grownBy (w.setCells g o vs) (some g)/\ys.length=xs.length/\∀ k,ys[k]?=if o<=k/\k<o+vs.length then vs[k - o]? else xs[k]?
 | [],o,w,xs,h,_=>⟨xs,h,⟨rfl,rfl,rfl,IB _,λ_ _ _=>rfl⟩,rfl,λk=>by rw[if_neg (by simp only[Jq];omega)]⟩
 | v :: vs,o,w,xs,h,hl=>by
  obtain⟨h1,g1⟩:=h.stored o v
  obtain⟨ys,h2,g2,hl2,h3⟩:=nV vs (o+1) (w.setCell ⟨g,o,none⟩ v) (xs.set o v) h1 (by rw[IW];simp at hl;omega)
  refine⟨ys,h2,⟨g2.os.trans g1.os,g2.tape.trans g1.tape,g2.output.trans g1.output,IU g1.size g2.size,λk hk hn=>(g2.block k (II hk g1.size) hn).trans (g1.block k hk hn)⟩,by rw[hl2,IW],λk=>?_⟩
  rw[h3 k]
  simp only[Jf] at hl ⊢
  by_cases h4:o+1<=k/\k<o+1+vs.length
  ·rw[if_pos h4,if_pos ⟨by omega,by omega⟩,show k - o=(k - (o+1))+1 by omega,IK]
  ·rw[if_neg h4,Kh]
   by_cases h5:o=k
   ·subst h5
    rw[if_pos rfl,if_pos (by omega),if_pos ⟨by omega,by omega⟩,Lb]
    rfl
   ·rw[if_neg h5,if_neg (by omega)]
theorem NO.stored {n:Nat}(h:NO e w B (.slice (some ⟨g,0,none⟩) n c) t)(i:Nat)(P:i<t.length)(m:Nod)(p u q:Value)(b:NIn w m p u q)
  (y:aR (.slice (some ⟨g,0,none⟩) n c) p) (x:aR (.slice (some ⟨g,0,none⟩) n c) u) (s:aR (.slice (some ⟨g,0,none⟩) n c) q):
  NO e (w.setCells g (i*5) (bV m p u q)) B (.slice (some ⟨g,0,none⟩) n c) (t.set i m)/\w.grownBy (w.setCells g (i*5) (bV m p u q)) (some g):=by
 obtain⟨us,l,M,L⟩:=h;have O:t.length=n:=by
  rcases l.2 with⟨e,_⟩|⟨g',cap,cur,e,_⟩
  ·simp at e
  ·simp only[IG] at e;exact e.2.1.symm
 subst O;have o:=l.1;obtain⟨G,H,j,S,d⟩:=nV (bV m p u q) (i*5) w us l (by rw[o];show i*5+5<=_;omega);refine⟨⟨G,by rw[IW];exact H,λz N=>?_,λk a=>?_⟩,j⟩
 ·obtain⟨k,a⟩:=List.getElem?_of_mem N
  rw[d] at a;split at a
  ·exact nU b z (JT a)
  ·exact M z (JT a)
 ·rw[IW] at a
  have A:(bV m p u q).length=5:=rfl;rw[dZ t i m k P];by_cases C:k=i
  ·subst C
   rw[if_pos rfl];refine⟨p,u,q,λf r=>?_,b.grown (v:=.slice (some ⟨g,0,none⟩) t.length c) j y x s,y,x,s⟩;rw[d,A,if_pos ⟨by omega,by omega⟩,Lt]
  ·rw[if_neg C]
   obtain⟨K,I,J,R,Q,F,E,D⟩:=L k a;refine⟨K,I,J,λf r=>?_,Q.grown (v:=.slice (some ⟨g,0,none⟩) t.length c) j F E D,F,E,D⟩;rw[d,A,if_neg (by omega)];exact R f r
structure S5 (P:Program)(t e:TypeId):Prop where
 mk ::
 ht:P.underlying t=some (.slice e)
 hi:∃ i z,P.info? e=some i/\i.zero=some z/\i.size=5/\i.bytes<=128/\z.cells.size=5
theorem S5.mk' {t:TypeId}{z:Value}(g:P.underlying t=some (.slice e))(h:(P.info? e).map (λi=>(i.zero,i.size,i.bytes))=some (some z,5,b))(k:b<=128)(f:z.cells.size=5):S5 P t e:=by
 obtain⟨i,j,c,a,d⟩:=info_parts h;exact⟨g,i,z,j,c,a,by omega,f⟩
def NAp (w:World)(v u:Value)(t:List Nod):Prop:=
 ∃ a c,u=.slice a t.length c/\t.length<=c/\c<=maxLen/\(a=none->c=0) /\
  (0<t.length->∃ b off,a=some ⟨b,off,none⟩/\∀ i,i<t.length->∃ p u h,NAt w b (off+i*5) (ats t i) p u h/\aR v p/\aR v u/\aR v h)
theorem NL.apart (h:NL w u t)(k:Kp w w')(j:∀ g,v.ownBlock=some g->w.heap.size<=g):NAp w' v u t:=by
 obtain⟨a,c,e,s,r,q,o⟩:=h;refine⟨a,c,e,s,r,q,λx=>?_⟩;obtain⟨b,f,n,_,m⟩:=o x;refine⟨b,f,n,λi l=>?_⟩;obtain⟨p,u,h,d⟩:=m i l;exact⟨p,u,h,d.kp k,d.2.pub.apart j,d.2.un.apart j,d.2.hash.apart j⟩
theorem NL.apart_blank (h:NL w u t)(n:∀ i,ats t i=aY):NAp w v u t:=by
 obtain⟨a,c,e,x,s,r,q⟩:=h;refine⟨a,c,e,x,s,r,λy=>?_⟩;obtain⟨b,f,o,_,m⟩:=q y;refine⟨b,f,o,λi g=>?_⟩;obtain⟨p,u,h,d⟩:=m i g;have e:=n i;obtain⟨E,B,l,_⟩:=d.2.pub.shape;obtain⟨D,A,k,_⟩:=d.2.un.shape;obtain⟨C,z,j,_⟩:=d.2.hash.shape;rw[e] at l k j;refine⟨p,u,h,d,?_,?_,?_⟩
 ·rw[l];exact aR.nil v E B
 ·rw[k];exact aR.nil v D A
 ·rw[j];exact aR.nil v C z
theorem NAp.flat (h:∀ i,i<t.length->∃ p u h,NAt w b (a+i*5) (ats t i) p u h/\aR v p/\aR v u/\aR v h):
  ∃ us:List Value,us.length=t.length*5/\(∀ z∈us,z.oneCell'=true)/\(∀ j z,us[j]?=some z->w.cell? ⟨b,a+j,none⟩=some z) /\
   ∀ i,i<t.length->∃ p u h,(∀ f,f<5->us[i*5+f]?=(bV (ats t i) p u h)[f]?)/\NIn w (ats t i) p u h/\aR v p/\aR v u/\aR v h:=by
 have key:∀ n,n<=t.length->∃ us:List Value,us.length=n*5/\(∀ z∈us,z.oneCell'=true)/\(∀ j z,us[j]?=some z->w.cell? ⟨b,a+j,none⟩=some z) /\
   ∀ i,i<n->∃ p u h,(∀ f,f<5->us[i*5+f]?=(bV (ats t i) p u h)[f]?)/\NIn w (ats t i) p u h/\aR v p/\aR v u/\aR v h:=by
  intro n;induction n with
  | zero=>exact λ_=>⟨[],rfl,λz c=>by simp at c,λj z d=>by simp at d,λi C=>by omega⟩
  | succ n ih=>
   intro H;obtain⟨us,e,B,A,y⟩:=ih (by omega);obtain⟨p,u,q,⟨D,l⟩,m⟩:=h n (by omega);have E:(bV (ats t n) p u q).length=5:=rfl;refine⟨us++bV (ats t n) p u q,by rw[IE,e,E];omega,λz c=>?_,λj z d=>?_,λi C=>?_⟩
   ·rcases Jy.1 c with c|c
    ·exact B z c
    ·exact nU l z c
   ·by_cases g:j<us.length
    ·rw[Jh g] at d
     exact A j z d
    ·rw[Jd (by omega)] at d
     have:=D _ z d;rw[e] at this g;rwa [show a+n*5+(j - n*5)=a+j by omega] at this
   ·by_cases k:i<n
    ·obtain⟨x,r,s,G,F⟩:=y i k
     refine⟨x,r,s,λf o=>?_,F⟩;rw[Jh (by rw[e];omega)];exact G f o
    ·have:i=n:=by omega
     subst this;refine⟨p,u,q,λf o=>?_,l,m⟩;rw[Jd (by rw[e];omega),e,Lt]
 exact key t.length (IB _)
theorem aR.moved {b:Value}{l:List UInt8}(h:aR v u)(c:Rd w u l)(k:b.ownBlock=v.ownBlock\/b.ownBlock=some w.heap.size):aR b u:=by
 rcases k with k|k
 ·exact λg a=>h g (k▸a)
 ·exact c.apart λg a=>by rw[k] at a;cases a;exact IB _
theorem aR.movedI {b:Value}(h:aR v u)(c:RI w u l)(k:b.ownBlock=v.ownBlock\/b.ownBlock=some w.heap.size):aR b u:=by
 rcases k with k|k
 ·exact λg a=>h g (k▸a)
 ·exact c.apart λg a=>by rw[k] at a;cases a;exact IB _
theorem zx (t m:List Nod)(i:Nat):ats (t++m) i=if i<t.length then ats t i else ats m (i - t.length):=by
 unfold ats;rw[Iw];split
 ·next h=>rw[Jh h,Iw]
 ·next h=>rw[Jd (by omega),Iw]
theorem pY {t:TypeId}(S:S5 P t e){O:Array Oper}{rest:List Oper}{o:Oper}{a:Act}(K:o.guard=none)(s x:Operand)
  (ho:o.op=.call { callee:=.builtin .append,args:=#[s,x],argTypes:=#[t,t] })
  (B:Nat) (v:Value) (n:List Nod) (hs:a.eval s=v) (T:NO e w B v n) (u:Value) (M:List Nod) (hx:a.eval x=u) (hu:NAp w v u M) (C:n.length+M.length<=1000000) (l:B<=w.heap.size)
  (h:∀ m w',NO e w' B m (n++M)->w.grownBy w' v.ownBlock->(m.ownBlock=v.ownBlock\/m.ownBlock=some w.heap.size)->wpList P O Q rest (a.put o.dst m) w'):wpList P O Q (o :: rest) a w:=by
 obtain⟨i,z,hi,hz,k,V,R⟩:=S.hi;obtain⟨us,W,h2,h3⟩:=T;obtain⟨ad,c,rfl,hc,hm,U,L⟩:=hu;by_cases h0:0<M.length
 ·obtain⟨b,Y,rfl,hn⟩:=L h0
  obtain⟨A,n1,n2,n3,n4⟩:=NAp.flat hn;refine wpList_append_own_at w K s x t ho B e i z 5 i.bytes S.ht hi hz k rfl R (by decide) v n.length us hs W ⟨b,Y,none⟩ M.length c A hx n1 (λj y D=>?_) n2 (by unfold maxLen;omega) ?_ l
   (λm w' Z N _ g=>h m w' ⟨us++A,by rw[IE];exact Z,λy H=>?_,λj D=>?_⟩ N g)
  ·rw[Addr.add_mid]
   exact n3 j y D
  ·have:=Kc C V
   omega
  ·rcases Jy.1 H with H|H
   ·exact h2 y H
   ·exact n2 y H
  ·have I:=W.1
   rw[zx];by_cases J:j<n.length
   ·rw[if_pos J]
    obtain⟨p,q,r,X,d,G,F,E⟩:=h3 j J;refine⟨p,q,r,λf hf=>?_,d.grown N G F E,G.moved d.pub g,F.movedI d.un g,E.moved d.hash g⟩;rw[Jh (by rw[I];omega)];exact X f hf
   ·rw[if_neg J]
    rw[IE] at D;obtain⟨p,q,r,X,d,G,F,E⟩:=n4 (j - n.length) (by omega);refine⟨p,q,r,λf hf=>?_,d.grown N G F E,G.moved d.pub g,F.movedI d.un g,E.moved d.hash g⟩;rw[Jd (by rw[I];omega),I,<-X f hf];congr 1
    omega
 ·have aa:M=[]:=IX (by omega)
  subst aa;cases ad with
  | none=>
   have ab:=U rfl;subst ab;refine wpList_append_own_none K s x t ho B e i 5 S.ht hi v n.length us hs W hx ?_;exact h v w ⟨us,by simpa using W,h2,by simpa using h3⟩ ⟨rfl,rfl,rfl,IB _,λ_ _ _=>rfl⟩ (.inl rfl)
  | some ad=>
   refine wpList_append_own_at w K s x t ho B e i z 5 i.bytes S.ht hi hz k rfl R (by decide) v n.length us hs W ad 0 c [] hx rfl (λj y D=>by simp at D) (λy H=>by simp at H) (by unfold maxLen;omega) ?_ l
    (λm w' Z N _ g=>h m w' ⟨us,by simpa using Z,h2,λj D=>?_⟩ N g)
   ·have:=Kc C V
    simp only[Jq] at this;omega
   ·rw[JV] at D ⊢
    obtain⟨p,q,r,X,d,G,F,E⟩:=h3 j D;exact⟨p,q,r,X,d.grown N G F E,G.moved d.pub g,F.movedI d.un g,E.moved d.hash g⟩
theorem pZ {j:TypeId}(k:(P.info? j).map (·.size)=some 5){d:Array Oper}{rest:List Oper}{o:Oper}{a:Act}(l:o.guard=none)(D:o.dst=none)(x y:Operand)
  (C:o.op=.store j x y) (B g c n:Nat) (t:List Nod) (b:NO e w B (.slice (some ⟨g,0,none⟩) n c) t) (i:Nat) (r:i<t.length) (m:Nod) (p u q:Value)
  (A:a.eval x=.pointer (some ⟨g,i*5,none⟩)) (z:a.eval y=.agg #[.int .i64 m.kind,.int .i64 m.name,p,u,q]) (f:NIn w m p u q)
  (G:aR (.slice (some ⟨g,0,none⟩) n c) p) (F:aR (.slice (some ⟨g,0,none⟩) n c) u) (E:aR (.slice (some ⟨g,0,none⟩) n c) q)
  (h:∀ w',NO e w' B (.slice (some ⟨g,0,none⟩) n c) (t.set i m)->w.grownBy w' (some g)->wpList P d Q rest a w'):wpList P d Q (o :: rest) a w:=by
 obtain⟨v,s⟩:=b.stored i r m p u q f G F E;refine wpList_store_mid l j x y C g (i*5) (bV m p u q).toArray A z (b.there i r) k (all_oneCell_toArray (nU f)) ?_;rw[D];exact h _ v s
theorem uT {i:Nat}(c:j<=10)(d:i<=j)(a:q<2 ^ (10 - j)):2 ^ (j - i)*q+2 ^ (j - i) - 1<2 ^ (10 - i):=by
 have e:2 ^ (10 - i)=2 ^ (j - i)*2 ^ (10 - j):=by rw[<-Nat.pow_add];congr 1;omega
 have b:2 ^ (j - i)*(q+1)<=2 ^ (10 - i):=by rw[e];exact Nat.mul_le_mul_left _ a
 rw[Nat.mul_add,Mk] at b;have:=bC (j - i);omega
theorem down (k:j<=10)(h:q<2 ^ (10 - j))(f g:Nat->Nat)(m:f=λi=>nd i (2 ^ (j - i)*q))(l:g=λi=>nd i (2 ^ (j - i)*q+2 ^ (j - i) - 1)):
  (∀ i,i<=j->dY ((f i:Nat):Int)=(i:Int)/\lev (f i)=i/\dY ((g i:Nat):Int)=(i:Int)/\lev (g i)=i) /\
  (∀ i,i+1<=j->chE ((f (i+1):Nat):Int)=0/\er ((f (i+1):Nat):Int)=((f i:Nat):Int)/\chE ((g (i+1):Nat):Int)=0/\eF ((g (i+1):Nat):Int)=((g i:Nat):Int)) /\
  f j=nd j q/\g j=nd j q/\((f 0:Nat):Int).tdiv 2=((2 ^ j*q:Nat):Int)/\((g 0:Nat):Int).tdiv 2=((2 ^ j*q+2 ^ j - 1:Nat):Int):=by
 subst m l;have d:∀ i,i<=j->2 ^ (j - i)*q<2 ^ (10 - i)/\2 ^ (j - i)*q+2 ^ (j - i) - 1<2 ^ (10 - i):=λi a=>by
  have c:=uT k a h;have b:=bC (j - i);omega
 refine⟨λi a=>?_,λi a=>?_,?_,?_,?_,?_⟩
 ·obtain⟨c,b⟩:=d i a
  exact⟨eL (by omega) c,fJ _ _ (by omega),eL (by omega) b,fJ _ _ (by omega)⟩
 ·obtain⟨c,b⟩:=d (i+1) a
  obtain⟨o,n,_⟩:=fN (j:=i) (q:=2 ^ (j - (i+1))*q) (by omega) c;obtain⟨r,_,p⟩:=fN (j:=i) (q:=2 ^ (j - (i+1))*q+2 ^ (j - (i+1)) - 1) (by omega) b;have e:j - i=(j - (i+1))+1:=by omega
  have s:=bC (j - (i+1));refine⟨o,?_,r,?_⟩
  ·rw[n]
   simp only[];rw[e,bj,Lm]
  ·rw[p]
   simp only[];rw[e,bj,Lm];congr 2
   omega
 ·simp
 ·simp
 ·simp only[Mr]
  rw[ep,Jp (by omega)];omega
 ·simp only[Mr]
  rw[ep,Jp (by omega)];omega
theorem Cv (j q:Nat)(w:World)(A:j<=10)(z:q<2 ^ (10 - j)):
  Calls prog 79 #[.int .i64 ((nd j q:Nat):Int)] w λe w'=>e=.returned (.tuple #[.int .i64 ((2 ^ j*q:Nat):Int),.int .i64 ((2 ^ j*q+2 ^ j - 1:Nat):Int)])/\w=w':=by
 obtain⟨R,Q⟩:=(dW ((nd j q:Nat):Int)).2 ⟨j,q,rfl,A,z⟩;obtain⟨f,C⟩:∃ f:Nat->Nat,f=λi=>nd i (2 ^ (j - i)*q):=⟨_,rfl⟩
 obtain⟨g,B⟩:∃ g:Nat->Nat,g=λi=>nd i (2 ^ (j - i)*q+2 ^ (j - i) - 1):=⟨_,rfl⟩
 obtain⟨J,H,G,F,E,D⟩:=down A z f g C B;have M:2 ^ j*q+2 ^ j - 1<2 ^ (10 - 0):=by have:=uT A (IO j) z;simpa using this
 have m:=Lib.hid J;have y:=Lib.hid H;have k:Hid (∀ x,Calls prog 82 #[.int .i64 x] w λe w'=>e=.returned (.int .i64 (dY x))/\w=w'):=λx=>pR x w
 have p:Hid (∀ x,Calls prog 34 #[.int .i64 x] w λe w'=>e=.returned (.tuple #[.int .i64 (er x),.int .i64 (chE x)])/\w=w'):=λx=>oZ x w
 have l:Hid (∀ x,Calls prog 35 #[.int .i64 x] w λe w'=>e=.returned (.tuple #[.int .i64 (eF x),.int .i64 (chE x)])/\w=w'):=λx=>pa x w
 have L:IntKind.i64.wrap ((2 ^ j*q:Nat):Int)=((2 ^ j*q:Nat):Int):=IA _ (by have:=bC j;omega);have N:IntKind.i64.wrap ((2 ^ j*q+2 ^ j - 1:Nat):Int)=((2 ^ j*q+2 ^ j - 1:Nat):Int):=IA _ (by omega);have u:=Lib.hid (IC E D);have v:=Lib.hid (IC G F);generalize ((2 ^ j*q:Nat):Int)=S at *;generalize ((2 ^ j*q+2 ^ j - 1:Nat):Int)=T at *;generalize nd j q=X at *;clear J H G F E D C B M z;go_enter func79,ntmps79;go_wp2_with fail;go_loop [4] (λa=>∃ i:Nat,i<=j/\a=.int .i64 ((f i:Nat):Int)) (λa=>lev (intOf a).toNat)
 case atStart=>exact⟨j,IB _,by rw[v.out.1]⟩
 case round=>
  obtain⟨i,n,rfl⟩:=hrel;have c:=k.out ((f i:Nat):Int);rw[(m.out i n).1] at c;have h:=Lib.hid c;clear c;cases i with
  | succ i=>
   obtain⟨t,s,_,_⟩:=y.out i n;have d:=p.out ((f (i+1):Nat):Int);rw[t,s] at d;have r:=Lib.hid d;have o:=Lib.hid (IC (m.out (i+1) n).2.1 (m.out i (by omega)).2.1);have K:0<((i+1:Nat):Int):=by omega
   generalize ((i+1:Nat):Int)=I at *;clear d t s m y k p l u v;go_wp2_with fail;refine h.out.mono ?_;rintro _ _ ⟨rfl,rfl⟩;go_wp2_with fail;refine r.out.mono ?_;rintro _ _ ⟨rfl,rfl⟩;go_wp2_with fail;go_round
   case rel=>exact⟨i,by omega,rfl⟩
   case measure=>have:=o.out;simp[intOf];omega
  | zero=>
   have P:=u.out.1;go_wp2_with fail;refine h.out.mono ?_;rintro _ _ ⟨rfl,rfl⟩;clear h n p;go_wp2_with fail;go_loop [5] (λb=>∃ i:Nat,i<=j/\b=.int .i64 ((g i:Nat):Int)) (λb=>lev (intOf b).toNat)
   case atStart=>exact⟨j,IB _,by rw[v.out.2]⟩
   case round=>
    obtain⟨i,n,rfl⟩:=hrel;have c:=k.out ((g i:Nat):Int);rw[(m.out i n).2.2.1] at c;have h:=Lib.hid c;clear c;cases i with
    | succ i=>
     obtain⟨_,_,t,s⟩:=y.out i n;have d:=l.out ((g (i+1):Nat):Int);rw[t,s] at d;have r:=Lib.hid d;have o:=Lib.hid (IC (m.out (i+1) n).2.2.2 (m.out i (by omega)).2.2.2);have K:0<((i+1:Nat):Int):=by omega
     generalize ((i+1:Nat):Int)=I at *;clear d t s m y k l u v;go_wp2_with fail;refine h.out.mono ?_;rintro _ _ ⟨rfl,rfl⟩;go_wp2_with fail;refine r.out.mono ?_;rintro _ _ ⟨rfl,rfl⟩;go_wp2_with fail;go_round
     case rel=>exact⟨i,by omega,rfl⟩
     case measure=>have:=o.out;simp[intOf];omega
    | zero=>
     have O:=u.out.2;clear y m k l v u;go_wp2_with fail;refine h.out.mono ?_;rintro _ _ ⟨rfl,rfl⟩;go_wp2_with fail;go_ret2;exact⟨rfl,rfl⟩
theorem uU (x:Int)(w:World):
  Calls prog 79 #[.int .i64 x] w λe w'=>e=.returned (.tuple #[.int .i64 (loV x),.int .i64 (hiV x)])/\w=w':=by
 by_cases h:okN x
 ·obtain⟨j,q,rfl,d,c⟩:=(dW x).1 h
  obtain⟨b,a⟩:=ke d c;rw[b,a];exact Cv j q w d c
 ·obtain⟨b,a⟩:=sL h
  rw[b,a];unfold okN at h;by_cases g:x<0
  ·clear h b a
   go_enter func79,ntmps79;go_wp2_with fail;go_ret2;exact⟨rfl,rfl⟩
  ·have f:2046<x:=by omega
   clear h b a;go_enter func79,ntmps79;go_wp2_with fail;go_ret2;exact⟨rfl,rfl⟩
def inL (l:List Nat)(n:Int):Bool:=l.any λx=>decide ((x:Int)=n)
theorem Cw (u:Value)(l:List Nat)(n:Int)(w:World)(r:RN w u l):
  Calls prog 49 #[u,.int .i64 n] w λe w'=>e=.returned (.bool (inL l n))/\w=w':=by
 obtain⟨L,K,rfl,p1,C⟩:=r.shape;unfold maxLen at C;have c:Hid (∀ k,k<l.length->((l.getD k 0:Nat):Int)=n->inL l n=true):=λk o p=>by
  unfold inL;rw[Lj];rw[Iw,Iy o] at p;exact⟨l[k],Jg o,IY p⟩
 have g:Hid ((∀ k,k<l.length->((l.getD k 0:Nat):Int)≠n)->inL l n=false):=λh=>by
  rw[Ka];intro v;unfold inL at v;rw[Lj] at v;obtain⟨x,D,p⟩:=v;obtain⟨k,o,rfl⟩:=Jr D;refine h k o ?_;rw[Iw,Iy o];exact JU p
 generalize inL l n=b at *;have B:=Lib.hid r;obtain⟨N,A⟩:∃ N,l.length=N:=⟨_,rfl⟩;rw[A] at B p1 c g ⊢;clear r A;go_enter func49,ntmps49;go_wp2_with fail;go_loop [5] (λi=>∃ k:Nat,k<=N/\i=.int .i64 (k:Int)/\(∀ t,t<k->((l.getD t 0:Nat):Int)≠n)) (λi=>(N - (intOf i).toNat))
 case atStart=>exact⟨0,IO _,rfl,λt h=>by omega⟩
 case round=>
  obtain⟨k,o,rfl,a⟩:=hrel;by_cases j:k<N
  ·obtain⟨J,G,rfl,_,q⟩:=B.out.at k j
   have I:=q k j;have m:=c.out k j;have d:Hid (((l.getD k 0:Nat):Int)≠n->∀ t,t<k+1->((l.getD t 0:Nat):Int)≠n):=λp t E=>by
    rcases Jc (Jn.1 E) with s|s
    ·exact a t s
    ·rw[s];exact p
   have H:IntKind.i64.wrap ((k:Int)+1)=(k:Int)+1:=IA _ (by omega);clear q c g a;generalize ((l.getD k 0:Nat):Int)=X at *;by_cases f:X=n
   ·have y:=Lib.hid (m f)
    subst f;clear m d;go_wp2_with fail;go_ret;exact⟨by rw[y.out] <;> rfl,rfl⟩
   ·have F:=Lib.hid (d.out f)
    have z:(X==n)=false:=ID.2 f;clear m d;go_wp2_with fail;go_round
    case rel=>exact⟨k+1,by omega,by go_num,F.out⟩
    case measure=>simp[intOf];omega
  ·obtain rfl:k=N:=by omega
   have y:=Lib.hid (g.out a);clear c g a;go_wp2_with fail;go_ret;exact⟨by rw[y.out] <;> rfl,rfl⟩
theorem rc (h:t.length<=100000):IntKind.i64.wrap ((t.length:Int)+1)=(t.length:Int)+1/\((t.length:Int)+1).tdiv 2=((lvs t:Nat):Int):=by
 refine⟨IA _ (by omega),?_⟩;unfold lvs;rw[Jp (by omega)];omega
theorem pd (h:k<lvs t):2*k<t.length:=by unfold lvs at h;omega
theorem jN (h:t.length<=100000):(lvs t:Int)<=100000:=by
 unfold lvs;omega
theorem jp (u:Value)(t:List Nod)(w:World)(d:NL w u t)(b:t.length<=100000):
  Calls prog 31 #[u] w λe w'=>e=.returned (.int .i64 ((lvs t:Nat):Int))/\w=w':=by
 obtain⟨a,c,rfl,j,i⟩:=d.shape;obtain⟨h,g⟩:=rc (t:=t) b;have f:IntKind.i64.wrap ((lvs t:Nat):Int)=((lvs t:Nat):Int):=IA _ (by have:=jN (t:=t) b;omega);go_enter func31,ntmps31;go_wp2_with fail;go_ret;exact⟨rfl,rfl⟩
theorem re (name:Int)(v:Value)(pub:List UInt8)(w:World)(d:Rd w v pub):
  Calls prog 84 #[.int .i64 name,v] w λe w'=>e=.returned (.bool (decide (dx name pub)))/\w=w':=by
 obtain⟨a,c,rfl,k,l⟩:=d.shape;by_cases g:0<=name
 ·by_cases f:name<=65535
  ·by_cases b:pub.length=32
   ·have e:decide (dx name pub)=true:=IY ⟨g,f,b⟩
    rw[e];rw[b] at k ⊢;clear e d b;go_enter func84,ntmps84;go_wp2_with fail;go_ret;exact⟨rfl,rfl⟩
   ·have e:decide (dx name pub)=false:=IS λh=>b h.2.2
    have j:((pub.length:Int)==32)=false:=ID.2 (by omega);have i:¬(pub.length:Int)=32:=by omega
    rw[e];clear e d b;go_enter func84,ntmps84;go_wp2_with fail;go_ret;exact⟨rfl,rfl⟩
  ·have e:decide (dx name pub)=false:=IS λh=>f h.2.1
   rw[e];clear e d;go_enter func84,ntmps84;go_wp2_with fail;go_ret;exact⟨rfl,rfl⟩
 ·have e:decide (dx name pub)=false:=IS λh=>g h.1
  rw[e];clear e d;go_enter func84,ntmps84;go_wp2_with fail;go_ret;exact⟨rfl,rfl⟩
theorem Cx {name:Int}(d:k<lvs t)(h:(ats t (2*k)).kind=1)(c:(ats t (2*k)).name=name)(a:∀ j,j<k->¬((ats t (2*j)).kind=1/\(ats t (2*j)).name=name)):
  kj t name=(k:Int)/\gd t name=true:=by
 have e:pW t name=k:=sZ (by omega) (λ_=>IY ⟨h,c⟩) (λj f=>IS (a j f));have b:gd t name=true:=by unfold gd;rw[e];exact IY d
 exact⟨by unfold kj;rw[b,e];rfl,b⟩
theorem Cy {name:Int}(h:∀ j,j<lvs t->¬((ats t (2*j)).kind=1/\(ats t (2*j)).name=name)):kj t name=0/\gd t name=false:=by
 have e:=zK h;exact⟨by unfold kj;rw[e];rfl,e⟩
theorem Cz (u:Value)(t:List Nod)(name:Int)(w:World)(A:NL w u t)(C:t.length<=100000):
  Calls prog 85 #[u,.int .i64 name] w λe w'=>e=.returned (.tuple #[.int .i64 (kj t name),.bool (gd t name)])/\w=w':=by
 have y:=Lib.hid (jp u t w A C);obtain⟨a,c,rfl,p1,T⟩:=A.shape;have P:=jN (t:=t) C;have M:=Lib.hid A;have E:=Lib.hid (λk I h o d=>Cx (t:=t) (name:=name) (k:=k) I h o d);have G:=Lib.hid (λh=>Cy (t:=t) (name:=name) h);have H:=Lib.hid (λk h=>pd (t:=t) (k:=k) h);generalize kj t name=FV at *;generalize gd t name=FB at *;generalize lvs t=L at *;obtain⟨N,K⟩:∃ N,t.length=N:=⟨_,rfl⟩;rw[K] at M p1 H y C ⊢;clear A K;go_enter func85,ntmps85;go_wp2_with fail;go_loop [6] (λi=>∃ k:Nat,k<=L/\i=.int .i64 (k:Int)/\(∀ j,j<k->¬((ats t (2*j)).kind=1/\(ats t (2*j)).name=name))) (λi=>(L - (intOf i).toNat))
 case atStart=>exact⟨0,IO _,rfl,λt h=>by omega⟩
 case round=>
  obtain⟨k,I,rfl,d⟩:=hrel;by_cases r:k<L
  ·have m:=H.out k r
   obtain⟨b,O,rfl,S,J⟩:=M.out.at (2*k) m;obtain⟨p,q,h,o⟩:=J (2*k) m;have c1:=o.kind;have Z:=o.name;have g:=E.out k r;have f:Hid (¬((ats t (2*k)).kind=1/\(ats t (2*k)).name=name)->∀ j,j<k+1->¬((ats t (2*j)).kind=1/\(ats t (2*j)).name=name)):=λR j Q=>by
    rcases Jc (Jn.1 Q) with D|D
    ·exact d j D
    ·rw[D];exact R
   have l:=Lib.hid d;have W:IntKind.i64.wrap ((k:Int)+1)=(k:Int)+1:=IA _ (by omega);have V:IntKind.i64.wrap (2*(k:Int))=((2*k:Nat):Int):=by rw[IA _ (by omega)];omega
   have U:((2*k:Nat):Int)<(N:Int):=by omega
   clear J o G d E m S;generalize (ats t (2*k)).kind=X at *;generalize (ats t (2*k)).name=Y at *;generalize 2*k=K2 at *;by_cases s:X=1
   ·by_cases B:Y=name
    ·obtain⟨x,v⟩:=g s B l.out
     have z:=Lib.hid (IC x v);subst s;subst B;clear g f l x v;go_wp2_with fail;refine y.out.mono ?_;rintro _ _ ⟨rfl,rfl⟩;go_wp2_with fail;go_ret2;exact⟨by rw[z.out.1,z.out.2] <;> rfl,rfl⟩
    ·have F:=Lib.hid (f.out λh=>B h.2)
     have n:(Y==name)=false:=ID.2 B;subst s;clear g f l;go_wp2_with fail;refine y.out.mono ?_;rintro _ _ ⟨rfl,rfl⟩;go_wp2_with fail;go_round
     case rel=>exact⟨k+1,by omega,by go_num,F.out⟩
     case measure=>simp[intOf];omega
   ·have F:=Lib.hid (f.out λh=>s h.1)
    have n:(X==1)=false:=ID.2 s;clear g f l;go_wp2_with fail;refine y.out.mono ?_;rintro _ _ ⟨rfl,rfl⟩;go_wp2_with fail;go_round
    case rel=>exact⟨k+1,by omega,by go_num,F.out⟩
    case measure=>simp[intOf];omega
  ·obtain rfl:k=L:=by omega
   obtain⟨x,v⟩:=G.out d;have z:=Lib.hid (IC x v);clear G d E H x v;go_wp2_with fail;refine y.out.mono ?_;rintro _ _ ⟨rfl,rfl⟩;go_wp2_with fail;go_ret2;exact⟨by rw[z.out.1,z.out.2] <;> rfl,rfl⟩
theorem infoNode:(prog.info? 81).map (λi=>(i.zero,i.size,i.bytes))=some (some (.agg #[.int .i64 0,.int .i64 0,.slice none 0 0,.slice none 0 0,.slice none 0 0]),5,88):=by kernel_rfl
theorem uV:S5 prog 22 81:=S5.mk' underlying22 infoNode (by decide) rfl
def pf (name:Int)(pub:List UInt8):Int:=if dx name pub then 0 else 1
def pg (name:Int)(pub:List UInt8):List Nod:=if dx name pub then [aD name pub] else []
theorem NL.lit1 (w:World)(e:TypeId)(n:Nod)(p u h:Value)(H:NIn w n p u h):NL (w.alloc (.cells #[.int .i64 n.kind,.int .i64 n.name,p,u,h] e)) (.slice (some ⟨w.heap.size,0,none⟩) 1 1) [n]:=by
 refine⟨_,1,rfl,IB _,by unfold maxLen;omega,λh=>(by cases h),λ_=>⟨w.heap.size,0,rfl,by simp,λi b=>?_⟩⟩;have:i=0:=by simpa using b
 subst this;refine⟨p,u,h,λj v a=>?_,H.kp ((Kp.refl _).alloc _)⟩;rw[cell_of_row _ _ _ _ _ _ (heap_alloc_new w _)];simp only[Nat.zero_mul,JA];exact(show(bV n p u h).toArray[j]?=some v by rw[IJ];exact a)
theorem CA (name:Int)(v:Value)(pub:List UInt8)(w:World)(d:Rd w v pub):
  Calls prog 37 #[.int .i64 name,v] w λe w'=>(∃ r,e=.returned (.tuple #[r,.int .i64 (pf name pub)])/\NL w' r (pg name pub))/\Kp w w':=by
 have b:=Lib.hid (re name v pub w d);by_cases h:dx name pub
 ·rw[IY h] at b
  rw[show pf name pub=0 from if_pos h,show pg name pub=[aD name pub] from if_pos h];have f:=Lib.hid (NL.lit1 w 81 (aD name pub) v (.slice none 0 0) (.slice none 0 0) ⟨d,RI.nil w,cQ w⟩);obtain⟨a,c,rfl,i,g⟩:=d.shape;go_enter func37,ntmps37;go_wp2_with fail;refine b.out.mono ?_;rintro _ _ ⟨rfl,rfl⟩;go_wp2_with fail;go_ret2;exact⟨⟨_,rfl,f.out⟩,(Kp.refl _).alloc _⟩
 ·rw[IS h] at b
  rw[show pf name pub=1 from if_neg h,show pg name pub=[] from if_neg h];clear h;go_enter func37,ntmps37;go_wp2_with fail;refine b.out.mono ?_;rintro _ _ ⟨rfl,rfl⟩;go_wp2_with fail;go_ret2;exact⟨⟨_,rfl,NL.nil _⟩,Kp.refl _⟩
theorem CB (a:(ats t x).kind=0):okP t x↔(ats t x).name=0/\(ats t x).pub.length=0/\(ats t x).un.length=0/\(ats t x).hash.length=0:=by
 constructor
 ·intro h
  rw[zu h a];exact⟨rfl,rfl,rfl,rfl⟩
 ·rintro⟨e,d,c,b⟩
  refine .inl ((Nod.eq_iff _ _).2 ⟨a,e,IX d,IX c,IX b⟩)
theorem CC (f:(ats t x).kind≠0):okP t x↔dx (ats t x).name (ats t x).pub/\((ats t x).hash.length=0\/(ats t x).hash.length=32)/\(ats t x).kind=1+(x:Int) % 2 /\
  ((ats t x).kind=1->(ats t x).un.length=0)/\((ats t x).kind≠1->unP t (loV x) (hiV x) (ats t x).un/\(ats t x).name=0):=by
 constructor
 ·rintro (h|⟨e,d,c,b,a⟩)
  ·rw[h] at f;exact absurd rfl f
  ·exact⟨d,c,e,λh=>by rw[b h];rfl,λh=>(a (by omega)).symm⟩
 ·rintro⟨d,c,e,b,a⟩
  exact .inr ⟨e,d,c,λh=>IX (b h),λh=>(a (by omega)).symm⟩
theorem CK {K:Nat}(e:K<=10)(o:a<2 ^ K)(u:b<2 ^ K)(f:Nat->Nat)(t:f=λi=>nd i (a / 2 ^ i)):
  f 0=2*a/\f (bw a b)=coN a b /\
  (∀ i,i<=bw a b->lev (f i)=i) /\
  (∀ i,i<bw a b->¬(loV ((f i:Nat):Int)<=(b:Int)/\(b:Int)<=hiV ((f i:Nat):Int))/\paE ((f i:Nat):Int) ((2 ^ K:Nat):Int)=0/\paV ((f i:Nat):Int) ((2 ^ K:Nat):Int)=((f (i+1):Nat):Int)) /\
  loV ((f (bw a b):Nat):Int)<=(b:Int)/\(b:Int)<=hiV ((f (bw a b):Nat):Int):=by
 subst t;obtain⟨s,r,p⟩:=nM e o u;generalize v:bw a b=M at *;have n:∀ i,i<=K->a / 2 ^ i<2 ^ (K - i):=λi c=>by
  have:=jz (K:=K) (j:=0) (q:=a) (i:=i) (by simpa using o) (by omega);simpa using this
 have d:∀ i,i<=K->(loV ((nd i (a / 2 ^ i):Nat):Int)<=(b:Int)/\(b:Int)<=hiV ((nd i (a / 2 ^ i):Nat):Int)↔b / 2 ^ i=a / 2 ^ i):=λi c=>by
  obtain⟨_,x,w⟩:=dX e c (n i c);obtain⟨m,l⟩:=ke x w;rw[m,l,<-pO];constructor
  ·rintro⟨k,g⟩;exact⟨by exact_mod_cast k,by exact_mod_cast g⟩
  ·rintro⟨k,g⟩;exact⟨by exact_mod_cast k,by exact_mod_cast g⟩
 refine⟨?_,?_,λi c=>fJ _ _ (by omega),λi c=>⟨λh=>?_,?_⟩,?_⟩
 ·simp[ep]
 ·unfold coN;rw[v]
 ·exact p i c ((d i (by omega)).1 h).symm
 ·obtain⟨m,l,_⟩:=nN (K:=K) (j:=i) (q:=a / 2 ^ i) e (by omega) (n i (by omega))
  refine⟨m,?_⟩;show _=((nd (i+1) (a / 2 ^ (i+1)):Nat):Int)
  rw[l,nL]
 ·exact(d M s).2 r.symm
theorem CL (K a b:Nat)(w:World)(n:K<=10)(r:a<2 ^ K)(p:b<2 ^ K):
  Calls prog 30 #[.int .i64 (a:Int),.int .i64 (b:Int),.int .i64 ((2 ^ K:Nat):Int)] w λe w'=>e=.returned (.tuple #[.int .i64 ((coN a b:Nat):Int),.int .i64 0])/\w=w':=by
 obtain⟨f,B⟩:∃ f:Nat->Nat,f=λi=>nd i (a / 2 ^ i):=⟨_,rfl⟩
 obtain⟨u1,u2,u3,u4,u5,u6⟩:=CK n r p f B;have G:=bY n;have H:=(nM n r p).1;have m:-9223372036854775808<=((2 ^ K:Nat):Int)/\((2 ^ K:Nat):Int)<=9223372036854775807:=by omega
 have y:=Lib.hid (pQ ((2 ^ K:Nat):Int) w);rw[jZ K n] at y;have j:Hid (∀ x,Calls prog 79 #[.int .i64 x] w λe w'=>e=.returned (.tuple #[.int .i64 (loV x),.int .i64 (hiV x)])/\w=w'):=λx=>uU x w
 have g:Hid (∀ i,i<bw a b->Calls prog 80 #[.int .i64 ((f i:Nat):Int),.int .i64 ((2 ^ K:Nat):Int)] w λe w'=>e=.returned (.tuple #[.int .i64 ((f (i+1):Nat):Int),.int .i64 0])/\w=w'):=λi l=>by
  have:=pc ((f i:Nat):Int) ((2 ^ K:Nat):Int) w m;rwa [(u4 i l).2.1,(u4 i l).2.2] at this
 have t:Hid (∀ i,i<bw a b->¬(loV ((f i:Nat):Int)<=(b:Int)/\(b:Int)<=hiV ((f i:Nat):Int))):=λi l=>(u4 i l).1
 have q:=Lib.hid u3;have v:Hid (2*(a:Int)=((f 0:Nat):Int)):=by unfold Hid;omega
 have z:IntKind.i64.wrap (2*(a:Int))=2*(a:Int):=IA _ (by omega);have s:=Lib.hid (IC u5 u6);have u:=Lib.hid u2;have Q:(a:Int)<((2 ^ K:Nat):Int):=by omega
 have P:(b:Int)<((2 ^ K:Nat):Int):=by omega
 have O:¬(a:Int)<0:=by omega
 have L:¬(b:Int)<0:=by omega
 generalize bw a b=M at *;generalize coN a b=C at *;generalize ((2 ^ K:Nat):Int)=N at *;clear u1 u2 u3 u4 u5 u6 B r p G m;go_enter func30,ntmps30;go_wp2_with fail;refine y.out.mono ?_;rintro _ _ ⟨rfl,rfl⟩;clear y;go_wp2_with fail;go_loop [9] (λx=>∃ i:Nat,i<=M/\x=.int .i64 ((f i:Nat):Int)) (λx=>(30 - lev (intOf x).toNat))
 case atStart=>exact⟨0,IO _,by rw[<-v.out]⟩
 case round=>
  obtain⟨i,l,rfl⟩:=hrel;have k:=Lib.hid (j.out ((f i:Nat):Int));by_cases d:i<M
  ·have c:=t.out i d
   have o:=Lib.hid (g.out i d);have A:=Lib.hid (IC (q.out i l) (q.out (i+1) d));have p:=Lib.hid n;generalize loV ((f i:Nat):Int)=E at *;generalize hiV ((f i:Nat):Int)=F at *;clear j g t q v s u z;by_cases D:E<=(b:Int)
   ·have I:¬(b:Int)<=F:=λh=>c ⟨D,h⟩
    clear c;go_wp2_with fail;refine k.out.mono ?_;rintro _ _ ⟨rfl,rfl⟩;go_wp2_with fail;refine o.out.mono ?_;rintro _ _ ⟨rfl,rfl⟩;go_wp2_with fail;go_round
    case rel=>exact⟨i+1,by omega,rfl⟩
    case measure=>have:=A.out;simp[intOf];omega
   ·clear c
    go_wp2_with fail;refine k.out.mono ?_;rintro _ _ ⟨rfl,rfl⟩;go_wp2_with fail;refine o.out.mono ?_;rintro _ _ ⟨rfl,rfl⟩;go_wp2_with fail;go_round
    case rel=>exact⟨i+1,by omega,rfl⟩
    case measure=>have:=A.out;simp[intOf];omega
  ·obtain rfl:i=M:=by omega
   obtain⟨D,I⟩:=s.out;have J:=Lib.hid u.out;generalize loV ((f i:Nat):Int)=E at *;generalize hiV ((f i:Nat):Int)=F at *;clear j g t q v s u z;go_wp2_with fail;refine k.out.mono ?_;rintro _ _ ⟨rfl,rfl⟩;go_wp2_with fail;go_ret2;exact⟨by rw[J.out] <;> rfl,rfl⟩
attribute [local go_sem] Oper.semAt_some
theorem xu (x n:Int)(w:World):
  Calls prog 125 #[.int .i64 x,.int .i64 n] w λe w'=>e=.returned (.func (.func 162) #[] #[.pointer (some ⟨w.heap.size,0,none⟩),.pointer (some ⟨w.heap.size+1,0,none⟩)])/\(w.alloc (.cells #[.int .i64 x] 3)).alloc (.cells #[.int .i64 n] 3)=w':=by
 go_enter func125,ntmps125;go_wp2;go_ret;exact⟨rfl,rfl⟩
theorem Fo (K j q G C:Nat)(w:World)(T:K<=10)(hj:j<=K)(M:q<2 ^ (K - j))(B:w.cell? ⟨G,0,none⟩=some (.int .i64 ((nd j q:Nat):Int)))(h2:w.cell? ⟨C,0,none⟩=some (.int .i64 ((2 ^ K:Nat):Int)))(g:Tab w)(f:Nat->Nat)(F:f=λi=>nd (j+i) (q / 2 ^ i)):
  pB prog 162 #[.pointer (some ⟨G,0,none⟩),.pointer (some ⟨C,0,none⟩)] (λi v _ _=>v=#[.int .i64 ((f i:Nat):Int),.int .i64 ((f (i+1):Nat):Int)]) (K - j) (λk=>k=G\/k=C\/k=1) w:=by
 intro l J Jx W u ag af hJ ai Z h0;have c1:=u.cell B (.inl rfl);have c2:=u.cell h2 (.inr (.inl rfl));have m:=g.held u (.inr (.inr rfl));have HJ:=Lib.hid hJ;have HY:=Lib.hid Z;obtain⟨I,w2,w3⟩:=way T hj M;have HP:Hid (∀ i W,i<K - j->Tab W->Calls prog 164 #[.int .i64 ((f i:Nat):Int)] W λe w'=>e=.returned (.int .i64 ((f (i+1):Nat):Int))/\W=w'):=λi W s m=>by
  have B:=Fj (j+i) (q / 2 ^ i) W (by omega) (xt T (jz M (by omega))) m;rw[<-nL] at B;rw[F];exact B
 have HR:Hid (∀ W,Calls prog 163 #[.int .i64 ((2 ^ K:Nat):Int)] W λe w'=>e=.returned (.int .i64 (((2 ^ K:Nat):Int) - 1))/\W=w'):=λW=>Fk _ W (by have:=ll T;omega)
 have y:nd j q=f 0:=by rw[F];simp
 have x:∀ i,nd (j+i) (q / 2 ^ i)=f i:=λi=>by rw[F]
 simp only[x] at I w2;have W1:=Lib.hid (λi s=>(I i s).2.2);have W2:=Lib.hid w2;have ah:K - j<=10:=by omega
 rw[y] at c1;have HH:=Lib.hid u;generalize ((2 ^ K:Nat):Int)=N at *;clear hJ Z I w2 w3 F y x B h2 g u M;refine(callsIn_wide (n:=5)).1 ?_;refine callsIn_of_wp func162 rfl trivial ?_ rfl;simp only[ntmps162,JE,JV,JF,Jf,Jq,Nat.reduceAdd,Nat.reduceSub,JB,JC,JM,Js,JG];gi_wp2
 gi_loopw [4] (λp wr=>∃ (i:Nat) (Y:Nat->Prop),i<=K - j/\p=.int .i64 ((f i:Nat):Int)/\wr.cell? ⟨C,0,none⟩=some (.int .i64 N)/\Tab wr/\aN (λk=>k=G\/k=C\/k=1) w wr/\J i Y wr/\(∀ k,Y k->W.heap.size<=k/\k<wr.heap.size)/\W.heap.size<=wr.heap.size) (λp _=>30 - lev (intOf p).toNat)
 case atStart=>exact⟨0,_,by omega,rfl,c2,m,HH.out,h0,λ_ h=>h.elim,IB _⟩
 case round=>
  clear c1 c2 m h0;obtain⟨i,Y,s,rfl,Q,m,t,r,b,ab⟩:=hrel;have ad:prog.follows .mixedOrders=true:=by kernel_rfl
  have ae:prog.follows .lateStores=true:=by kernel_rfl
  have a:=W2.out i s;by_cases d:i<K - j
  ·have o:¬((f i:Nat):Int)=N - 1:=λh=>by have:=a.1 h;omega
   have R:(((f i:Nat):Int) != N - 1)=true:=Ki.2 o;obtain⟨fn,tmps,H,aa,X,S⟩:=HY.out i Y wr #[.int .i64 ((f i:Nat):Int),.int .i64 ((f (i+1):Nat):Int)] 4 d r b t rfl;have U:=Lib.hid (IC (W1.out i s) (W1.out (i+1) (by omega)));have D:=Lib.hid m;clear a o;gi_wp2_with (first|(refine⟨trivial,?_⟩;gi_at_call 163;refine(callsIn_wide.2 (HR.out _)).mono ?_;rintro _ _ ⟨rfl,rfl⟩)|(refine⟨trivial,?_⟩;gi_at_call 164;refine(callsIn_wide.2 (HP.out i _ d D.out)).mono ?_;rintro _ _ ⟨rfl,rfl⟩))
   refine S.mono ?_;rintro e w2 ⟨c,(⟨rfl,O⟩|⟨rfl,L⟩)⟩
   ·have P:=c.cell Q (.inr (.inr (.inl rfl)))
    have A:=D.out.held c (.inr (.inr (.inr rfl)));have E:=Lib.hid A;have V:=Lib.hid (t.trans (c.mono (λ_ h=>.inr h)));clear X S A;gi_wp2_with (refine⟨trivial,?_⟩;gi_at_call 164;refine(callsIn_wide.2 (HP.out i _ d E.out)).mono ?_;rintro _ _ ⟨rfl,rfl⟩)
    go_roundw
    case rel=>exact⟨i+1,Y,by omega,rfl,P,E.out,V.out,O,λk h=>⟨(b k h).1,II (b k h).2 c.size⟩,by have:=c.size;omega⟩
    case measure=>have:=U.out;simp[intOf];omega
   ·clear X S
    gi_wp2
    refine bodyPost_ret (results_none rfl _ _ _) rfl ?_;exact⟨⟨_,rfl⟩,Y,λk h=>⟨(b k h).1,II (b k h).2 c.size⟩,.inr ⟨i,d,L⟩⟩
  ·obtain rfl:i=K - j:=by omega
   have z:((f (K - j):Nat):Int)=N - 1:=a.2 rfl;have R:(((f (K - j):Nat):Int) != N - 1)=false:=by rw[z];simp
   clear z a;gi_wp2_with (refine⟨trivial,?_⟩;gi_at_call 163;refine(callsIn_wide.2 (HR.out _)).mono ?_;rintro _ _ ⟨rfl,rfl⟩)
   go_end0
   exact⟨⟨_,rfl⟩,Y,b,.inl r⟩
theorem pC:34≠3:=by decide
theorem xv (K j q:Nat)(x n:Int)(W:World)(a:x=((nd j q:Nat):Int))(c:n=((2 ^ K:Nat):Int))(f:K<=10)(d:j<=K)(b:q<2 ^ (K - j))(e:Tab W):
  pB prog 162 #[.pointer (some ⟨W.heap.size,0,none⟩),.pointer (some ⟨W.heap.size+1,0,none⟩)] (λi v _ _=>v=#[.int .i64 ((nd (j+i) (q / 2 ^ i):Nat):Int),.int .i64 ((nd (j+(i+1)) (q / 2 ^ (i+1)):Nat):Int)]) (K - j) (λk=>k=W.heap.size\/k=W.heap.size+1\/k=1) ((W.alloc (.cells #[.int .i64 x] 3)).alloc (.cells #[.int .i64 n] 3)):=by
 subst a c;refine Fo K j q W.heap.size (W.heap.size+1) _ f d b ?_ ?_ ((e.kp ((Kp.refl _).alloc _)).kp ((Kp.refl _).alloc _)) _ rfl
 ·exact((Boxed.new W 3 (.int .i64 ((nd j q:Nat):Int))).alloc _).cell
 ·have:=(Boxed.new (W.alloc (.cells #[.int .i64 ((nd j q:Nat):Int)] 3)) 3 (.int .i64 ((2 ^ K:Nat):Int))).cell
  rwa [IQ] at this
theorem xw (K j q:Nat)(w:World)(Q:K<=10)(hj:j<=K)(hq:q<2 ^ (K - j))(hT:Tab w):
  Calls prog 92 #[.int .i64 ((nd j q:Nat):Int),.int .i64 ((2 ^ K:Nat):Int)] w λe w'=>(∃ v,e=.returned (.tuple #[v,.int .i64 0])/\ON 3 w' w.heap.size v (aC K j q))/\Kp w w':=by
 have S:=fV;obtain⟨i0,z0,ag,af,ae,ad,ab⟩:=S.hi;have I:=(gM ((nd j q:Nat):Int) ((2 ^ K:Nat):Int)).2 ⟨K,j,q,Q,rfl,rfl,hj,hq⟩;have HN:=Lib.hid (nQ ((nd j q:Nat):Int) ((2 ^ K:Nat):Int));rw[I] at HN;obtain⟨X,hX⟩:∃ X:Int,X=((nd j q:Nat):Int):=⟨_,rfl⟩;obtain⟨N,hN⟩:∃ N:Int,N=((2 ^ K:Nat):Int):=⟨_,rfl⟩;rw[<-hX,<-hN] at HN ⊢;have HU:=Lib.hid (λW an=>xv K j q X N W hX hN Q hj hq an);have U:Hid (∀ i,i<K - j->(aC K j q).take (i+1)=(aC K j q).take i++[nd (j+(i+1)) (q / 2 ^ (i+1))]):=λi Z=>by
  rw[show j+(i+1)=j+1+i by omega];exact sA K j q i Z
 have HE:Hid ((aC K j q).take (K - j)=aC K j q):=Jm (by rw[lA];omega);have ar:Hid (∀ i,((aC K j q).take i).length<=1000):=λi=>by rw[Ja,lA];omega
 obtain⟨f,hf⟩:∃ f:Nat->Nat,f=λi=>nd (j+i) (q / 2 ^ i):=⟨_,rfl⟩
 have J:∀ i,nd (j+i) (q / 2 ^ i)=f i:=λi=>by rw[hf]
 simp only[J] at HU U;generalize aC K j q=PL at *;generalize K - j=D at *;clear hX hN I hq hj Q hf J;refine(callsIn_wide (n:=4)).1 ?_;refine callsIn_of_wp_marks func92 rfl trivial ?_ rfl;refine wpIn_wide.2 ?_;simp only[ntmps92,JE,JF,Jq,Jf,Nat.reduceAdd,Nat.reduceSub,JB,JC,JM,Js,JG];go_wp2_with fail;refine(HN.out _).mono ?_;rintro _ _ ⟨rfl,rfl⟩;go_wp2_with fail;obtain⟨a,d⟩:∃ a,w.alloc (.cells #[.slice none 0 0] 34)=a:=⟨_,rfl⟩;rw[d];have s:Boxed a w.heap.size 34 (.slice none 0 0):=by rw[<-d];exact Boxed.new _ _ _
 have k1:Kp w a:=by rw[<-d];exact(Kp.refl _).alloc _
 have G:a.heap.size=w.heap.size+1:=by rw[<-d];simp
 refine(xu _ _ _).mono ?_;rintro _ T ⟨rfl,m⟩;have k2:Kp a T:=by rw[<-m];exact((Kp.refl _).alloc _).alloc _
 have F:T.heap.size=a.heap.size+2:=by rw[<-m];simp
 have ak:Boxed T w.heap.size 34 (.slice none 0 0):=(k2.block _ s.lt).trans s;have z:=HU.out a (hT.kp k1);rw[m] at z;have aa:=Below.trans k1 (k2.mono (by omega));have aw:=hT.lt;have p:=Lib.hid z;have V:=Lib.hid (IC G F);clear d m s HU k1 k2 z HN G F;go_wp2_with fail;have hE:∀ args w,(callFunc 162 args).run prog w=.ok (.enter 162 args) w:=enters_of func162 (by kernel_rfl) rfl;obtain⟨R,hR⟩:∃ R:Nat->Prop,(λk=>k=a.heap.size\/k=a.heap.size+1\/k=1)=R:=⟨_,rfl⟩;have O:∀ k,R k->w.heap.size<k/\k<T.heap.size\/k<w.heap.size:=λk r=>by have:=V.out;rw[<-hR] at r;rcases r with rfl|rfl|rfl <;> omega
 rw[hR] at p;clear hR;refine rQ (gf:=162) (lb:=#[.pointer (some ⟨a.heap.size,0,none⟩),.pointer (some ⟨a.heap.size+1,0,none⟩)]) rfl hE (Kp.refl T) (λk r=>by have:=O k r;have:=V.out;omega) p.out ?sz
   (λi Y A=>∃ v,en 34 3 w R (PL.take i) Y A v) (λc i Y A=>False) ?mI ?mIx ?TT ?h0
   (λv a' _=>∃ x y:Int,v=#[.int .i64 x,.int .i64 y]/\a'={ tmps:=#[.int .i64 X,.int .i64 N,undef,undef,.slice none 0 0,.int .i64 0,.pointer (some ⟨w.heap.size,0,none⟩),undef,.int .i64 y,.int .i64 X,.int .i64 N,.bool true,.bool false,.int .i64 X,.int .i64 N,.func (.func 162) #[] #[.pointer (some ⟨a.heap.size,0,none⟩),.pointer (some ⟨a.heap.size+1,0,none⟩)],.int .i64 x,.int .i64 y,undef,undef,undef,undef,undef],defers:=[] })
   (λ_ _ _ _ _ _ h _ _=>h) ?assign ?body ?done ?stop
 case h0=>exact⟨_,ak,by rw[Lq];exact ON.nil _ _ _,(λg hg=>by cases hg),aa⟩
 case sz=>intro i v Y A h;rw[h];rfl
 case mI=>intro i;exact en.minds (by have:=V.out;omega)
 case mIx=>intro c i Y Y' A A' h;exact h.elim
 case TT=>intro i v Yi Y A A' l o h _ _ _ _ _;exact h
 case assign=>
  intro l i Y Yi v A Kk hI t Q;subst t;gi_wp2
  exact Q _ _ (Kp.refl _) ⟨_,_,rfl,rfl⟩
 case body=>
  rintro l i Y v a' A Z ⟨u,b⟩ B P t ⟨x,y,C,rfl⟩;subst t;simp only[Array.mk.injEq,Mq,Value.int.injEq,true_and,and_true] at C;obtain⟨rfl,rfl⟩:=C;have ai:=b.box.cell;have av:((PL.take i).map iv).length<=1000:=by rw[Jl];exact ar.out i
  have ap:w.heap.size<A.heap.size:=b.box.lt;have L:∀ k,Y k\/R k->k≠w.heap.size/\k<A.heap.size:=λk r=>by
   have:=V.out;have h3:=P.size;rcases r with h|h
   ·have:=B k h;omega
   ·have:=O k h;omega
  have aq:=Lib.hid (U.out i Z);have HY:=Lib.hid L;have HC:=Lib.hid b;clear L B P b;gi_wp2_with (gi_at_builtin;refine wpListIn_append_own_at _ rfl _ _ 34 rfl w.heap.size 3 i0 z0 1 i0.bytes S.ht ag af ae rfl ab (by decide) u _ ((PL.take i).map iv) rfl (ON.kp HC.out.own ((Kp.refl _).alloc _)) ⟨A.heap.size,0,none⟩ 1 1 [iv (f (i+1))] rfl rfl (cell_one_new A _ _) (by intro u hu;simp at hu;subst hu;rfl) (by unfold maxLen;omega) (by have:=Kc (show((PL.take i).map iv).length+1<=1001 by omega) ad;omega) (by simp;omega) ?_;intro v' w1 H ah _ al;obtain⟨gv,cv,rfl⟩:=ownsRow_succ H;obtain⟨cx,fz,cl,hd⟩:=en.next pC HC.out ap HY.out (x:=f (i+1)) (by unfold ON;rw[JZ,IE];exact H) ah al)
  simp only[Jl,Ja] at cl hd;rw[aq.out];exact⟨hd,_,cl⟩
 case done=>
  rintro D' Y W hD M am ⟨u,b⟩ hd;rename_i Qp Kk ao
  rw[HE.out] at b;obtain⟨au,nu,cu,rfl⟩:=(ON.rn b.own).sl;have c1:=b.box.cell;simp only[Exit.inBlock,Exit.then];refine ao _ _ ?_;go_wp2;have E:aj (λk=>k=D') W (W.putObj D' (.deferred none)):=(aj.refl _ W).putObj _ _ (.inr rfl);refine⟨by simp,.inl ⟨_,_,rfl,run_takeDeferred hd,?_⟩⟩;refine⟨_,results_tmp2 rfl _ _ _,⟨_,rfl,?_⟩,Below.trans b.kp (E.below b.kp.size (λk r=>by have:=V.out;omega))⟩;exact(rS b.own E (λg hg e=>by subst e;exact b.apt g hg (.inl M)))
 case stop=>intro D' c i Y W hD M am Z h;exact h.elim
theorem FT (K j q:Nat)(w:World)(a:K<=10)(hj:j<=K)(hq:q<2 ^ (K - j))(hT:Tab w):
  Calls prog 88 #[.int .i64 ((nd j q:Nat):Int),.int .i64 ((2 ^ K:Nat):Int)] w λe w'=>(∃ v,e=.returned (.tuple #[v,.int .i64 0])/\ON 3 w' w.heap.size v (cC K j q))/\Kp w w':=by
 have S:=fV;obtain⟨i0,z0,az,ax,aw,av,ar⟩:=S.hi;have U:=(gM ((nd j q:Nat):Int) ((2 ^ K:Nat):Int)).2 ⟨K,j,q,a,rfl,rfl,hj,hq⟩;have HN:=Lib.hid (nQ ((nd j q:Nat):Int) ((2 ^ K:Nat):Int));rw[U] at HN;obtain⟨X,hX⟩:∃ X:Int,X=((nd j q:Nat):Int):=⟨_,rfl⟩;obtain⟨N,hN⟩:∃ N:Int,N=((2 ^ K:Nat):Int):=⟨_,rfl⟩;rw[<-hX,<-hN] at HN ⊢;have HU:=Lib.hid (λW ao=>xv K j q X N W hX hN a hj hq ao);have af:Hid (∀ i,i<K - j->(cC K j q).take (i+1)=(cC K j q).take i++[nd (j+i) (sq (q / 2 ^ i))]):=λi J=>sC K j q i J
 have ag:Hid (∀ i W,i<K - j->Calls prog 126 #[.int .i64 ((nd (j+i) (q / 2 ^ i):Nat):Int),.int .i64 ((nd (j+(i+1)) (q / 2 ^ (i+1)):Nat):Int)] W λe w'=>e=.returned (.int .i64 ((nd (j+i) (sq (q / 2 ^ i)):Nat):Int))/\W=w'):=λi W J=>by
  rw[nL];exact Fl (j+i) (q / 2 ^ i) W (by omega) (xt a (jz hq (by omega)))
 have HE:Hid ((cC K j q).take (K - j)=cC K j q):=Jm (by rw[nJ];omega);have t:Hid (∀ i,((cC K j q).take i).length<=1000):=λi=>by rw[Ja,nJ];omega
 obtain⟨f,hf⟩:∃ f:Nat->Nat,f=λi=>nd (j+i) (q / 2 ^ i):=⟨_,rfl⟩
 have Z:∀ i,nd (j+i) (q / 2 ^ i)=f i:=λi=>by rw[hf]
 obtain⟨g,L⟩:∃ g:Nat->Nat,g=λi=>nd (j+i) (sq (q / 2 ^ i)):=⟨_,rfl⟩
 have V:∀ i,nd (j+i) (sq (q / 2 ^ i))=g i:=λi=>by rw[L]
 simp only[Z,V] at HU af ag;generalize cC K j q=PL at *;generalize K - j=D at *;clear hX hN U hq hj a hf Z L V;refine(callsIn_wide (n:=4)).1 ?_;refine callsIn_of_wp_marks func88 rfl trivial ?_ rfl;refine wpIn_wide.2 ?_;simp only[ntmps88,JE,JF,Jq,Jf,Nat.reduceAdd,Nat.reduceSub,JB,JC,JM,Js,JG];go_wp2_with fail;refine(HN.out _).mono ?_;rintro _ _ ⟨rfl,rfl⟩;go_wp2_with fail;obtain⟨d,p⟩:∃ d,w.alloc (.cells #[.slice none 0 0] 34)=d:=⟨_,rfl⟩;rw[p];have F:Boxed d w.heap.size 34 (.slice none 0 0):=by rw[<-p];exact Boxed.new _ _ _
 have k1:Kp w d:=by rw[<-p];exact(Kp.refl _).alloc _
 have T:d.heap.size=w.heap.size+1:=by rw[<-p];simp
 refine(xu _ _ _).mono ?_;rintro _ W2 ⟨rfl,s⟩;have k2:Kp d W2:=by rw[<-s];exact((Kp.refl _).alloc _).alloc _
 have Q:W2.heap.size=d.heap.size+2:=by rw[<-s];simp
 have al:Boxed W2 w.heap.size 34 (.slice none 0 0):=(k2.block _ F.lt).trans F;have H:=HU.out d (hT.kp k1);rw[s] at H;have ai:=Below.trans k1 (k2.mono (by omega));have ay:=hT.lt;have B:=Lib.hid H;have HS:=Lib.hid (IC T Q);clear p s F HU k1 k2 H HN T Q;go_wp2_with fail;have hE:∀ args w,(callFunc 162 args).run prog w=.ok (.enter 162 args) w:=enters_of func162 (by kernel_rfl) rfl;obtain⟨R,hR⟩:∃ R:Nat->Prop,(λk=>k=d.heap.size\/k=d.heap.size+1\/k=1)=R:=⟨_,rfl⟩;have ad:∀ k,R k->w.heap.size<k/\k<W2.heap.size\/k<w.heap.size:=λk C=>by have:=HS.out;rw[<-hR] at C;rcases C with rfl|rfl|rfl <;> omega
 rw[hR] at B;clear hR;refine rQ (gf:=162) (lb:=#[.pointer (some ⟨d.heap.size,0,none⟩),.pointer (some ⟨d.heap.size+1,0,none⟩)]) rfl hE (Kp.refl W2) (λk C=>by have:=ad k C;have:=HS.out;omega) B.out ?sz
   (λi Y A=>∃ v,en 34 3 w R (PL.take i) Y A v) (λc i Y A=>False) ?mI ?mIx ?TT ?h0
   (λv a' _=>∃ x y:Int,v=#[.int .i64 x,.int .i64 y]/\a'={ tmps:=#[.int .i64 X,.int .i64 N,undef,undef,.slice none 0 0,.int .i64 0,.pointer (some ⟨w.heap.size,0,none⟩),.int .i64 x,.int .i64 y,.int .i64 X,.int .i64 N,.bool true,.bool false,.int .i64 X,.int .i64 N,.func (.func 162) #[] #[.pointer (some ⟨d.heap.size,0,none⟩),.pointer (some ⟨d.heap.size+1,0,none⟩)],.int .i64 x,.int .i64 y,undef,undef,undef,undef,undef,undef,undef],defers:=[] })
   (λ_ _ _ _ _ _ h _ _=>h) ?assign ?body ?done ?stop
 case h0=>exact⟨_,al,by rw[Lq];exact ON.nil _ _ _,(λg L=>by cases L),ai⟩
 case sz=>intro i v Y A h;rw[h];rfl
 case mI=>intro i;exact en.minds (by have:=HS.out;omega)
 case mIx=>intro c i Y Y' A A' h;exact h.elim
 case TT=>intro i v Yi Y A A' l o h _ _ _ _ _;exact h
 case assign=>
  intro l i Y Yi v A Kk hI G a;subst G;gi_wp2
  exact a _ _ (Kp.refl _) ⟨_,_,rfl,rfl⟩
 case body=>
  rintro l i Y v a' A J ⟨u,m⟩ M ae G ⟨x,y,O,rfl⟩;subst G;simp only[Array.mk.injEq,Mq,Value.int.injEq,true_and,and_true] at O;obtain⟨rfl,rfl⟩:=O;have E:=m.box.cell;have aq:((PL.take i).map iv).length<=1000:=by rw[Jl];exact t.out i
  have aA:w.heap.size<A.heap.size:=m.box.lt;have aa:∀ k,Y k\/R k->k≠w.heap.size/\k<A.heap.size:=λk C=>by
   have:=HS.out;have h3:=ae.size;rcases C with h|h
   ·have:=M k h;omega
   ·have:=ad k h;omega
  have I:=Lib.hid (af.out i J);have HY:=Lib.hid aa;have HC:=Lib.hid m;clear aa M ae m;have ak:prog.follows .mixedOrders=true:=by kernel_rfl
  have ah:=Lib.hid (λW=>ag.out i W J);gi_wp2
  have cd:A.drew.cell? ⟨w.heap.size,0,none⟩=some u:=E;refine uq (S:=λ_=>True) ak ?_;refine bi.take 1 (.int .i64 ((f i:Nat):Int)) rfl (by kernel_rfl) (by kernel_rfl) (by kernel_rfl) (by kernel_rfl) (λ_ _ _ h=>h) trivial ⟨λc e=>(by cases e),λ_=>rfl,.inl ⟨rfl,λW' an=>?_⟩⟩ ?_
  ·go_simp
  refine bi.take 2 (.int .i64 ((f (i+1):Nat):Int)) rfl (by kernel_rfl) (by kernel_rfl) (by kernel_rfl) (by kernel_rfl) (λ_ _ _ h=>h) trivial ⟨λc e=>(by cases e),λ_=>rfl,.inl ⟨rfl,λW' an=>?_⟩⟩ ?_
  ·go_simp
  go_simp;refine bi.two 0 3 rfl rfl (by kernel_rfl) (λb a=>?_) (λb a=>?_)
  ·go_simp
   refine a _ _ trivial ?_;clear a b;refine bi.one 3 rfl (by kernel_rfl) (λb a=>?_);go_simp;gi_wp2_with (refine⟨trivial,?_⟩;gi_at_call 126;refine(CallsIn.inRound l (callsIn_wide.2 (ah.out _))).mono ?_;rintro _ _ ⟨rfl,rfl⟩)
   refine a _ _ trivial ?_;clear a b;refine bi.one 4 rfl (by kernel_rfl) (λb a=>?_);go_simp;refine a _ _ trivial ?_;clear a b;refine bi.one 5 rfl (by kernel_rfl) (λb a=>?_);rw[if_pos (by rfl)];refine rT S pC _ _ (g i) rfl HC.out (t.out i) HY.out rfl rfl ?_;intro gv cv w1 cx fz z r;refine a _ _ trivial ?_;clear a b;refine bi.one 6 rfl (by kernel_rfl) (λb a=>?_);go_simp;refine a _ _ trivial ?_;clear a b;refine bi.done (by kernel_rfl) ?_;simp only[Ja] at z r;refine⟨(aN.of_kp (rR A)).trans r,.inl ⟨rfl,.slice (some ⟨gv,0,none⟩) (min i PL.length+1) cv,?_⟩⟩;rw[I.out];exact z
  ·go_simp
   gi_wp2_with (refine⟨trivial,?_⟩;gi_at_call 126;refine(CallsIn.inRound l (callsIn_wide.2 (ah.out _))).mono ?_;rintro _ _ ⟨rfl,rfl⟩)
   refine a _ _ trivial ?_;clear a b;refine bi.two 0 4 rfl rfl (by kernel_rfl) (λb a=>?_) (λb a=>?_)
   ·go_simp
    refine a _ _ trivial ?_;clear a b;refine bi.one 4 rfl (by kernel_rfl) (λb a=>?_);go_simp;refine a _ _ trivial ?_;clear a b;refine bi.one 5 rfl (by kernel_rfl) (λb a=>?_);rw[if_pos (by rfl)];refine rT S pC _ _ (g i) rfl HC.out (t.out i) HY.out rfl rfl ?_;intro gv cv w1 cx fz z r;refine a _ _ trivial ?_;clear a b;refine bi.one 6 rfl (by kernel_rfl) (λb a=>?_);go_simp;refine a _ _ trivial ?_;clear a b;refine bi.done (by kernel_rfl) ?_;simp only[Ja] at z r;refine⟨(aN.of_kp (rR A)).trans r,.inl ⟨rfl,.slice (some ⟨gv,0,none⟩) (min i PL.length+1) cv,?_⟩⟩;rw[I.out];exact z
   ·go_simp
    refine a _ _ trivial ?_;clear a b;refine bi.one 0 rfl (by kernel_rfl) (λb a=>?_);go_simp;refine a _ _ trivial ?_;clear a b;refine bi.one 5 rfl (by kernel_rfl) (λb a=>?_);rw[if_pos (by rfl)];refine rT S pC _ _ (g i) rfl HC.out (t.out i) HY.out rfl rfl ?_;intro gv cv w1 cx fz z r;refine a _ _ trivial ?_;clear a b;refine bi.one 6 rfl (by kernel_rfl) (λb a=>?_);go_simp;refine a _ _ trivial ?_;clear a b;refine bi.done (by kernel_rfl) ?_;simp only[Ja] at z r;refine⟨(aN.of_kp (rR A)).trans r,.inl ⟨rfl,.slice (some ⟨gv,0,none⟩) (min i PL.length+1) cv,?_⟩⟩;rw[I.out];exact z
 case done=>
  rintro D' Y W hD ab am ⟨u,m⟩ r;rename_i Qp Kk ap
  rw[HE.out] at m;obtain⟨au,nu,cu,rfl⟩:=(ON.rn m.own).sl;have c1:=m.box.cell;simp only[Exit.inBlock,Exit.then];refine ap _ _ ?_;go_wp2;have P:aj (λk=>k=D') W (W.putObj D' (.deferred none)):=(aj.refl _ W).putObj _ _ (.inr rfl);refine⟨by simp,.inl ⟨_,_,rfl,run_takeDeferred r,?_⟩⟩;refine⟨_,results_tmp2 rfl _ _ _,⟨_,rfl,?_⟩,Below.trans m.kp (P.below m.kp.size (λk C=>by have:=HS.out;omega))⟩;exact rS m.own P (λg L e=>by subst e;exact m.apt g L (.inl ab))
 case stop=>intro D' c i Y W hD ab am J h;exact h.elim

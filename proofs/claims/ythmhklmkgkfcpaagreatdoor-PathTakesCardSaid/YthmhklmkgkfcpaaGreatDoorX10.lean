import Derived.Test.YthmhklmkgkfcpaaGreatDoorX9
set_option linter.all false
set_option maxHeartbeats 8000000
set_option maxRecDepth 100000
namespace Go.Proofs.YthmhklmkgkfcpaaGreatDoor
open Go.Proofs.Tryz Go.RowKit
variable {B C b c g o:Nat}{P:Program}{Q:Exit->Act->World->Prop}{a:Act}{e:TypeId}{h p u v:Value}{l:List Int}{n:Nod}{rest:List Oper}{t:List Nod}{w w':World}
def iv (n:Nat):Value:=.int .i64 (n:Int)
def RN (w:World)(v:Value)(l:List Nat):Prop:=di w v (l.map iv)
def ON (e:TypeId)(w:World)(B:Nat)(v:Value)(l:List Nat):Prop:=w.ownsRow B e 1 v (l.map iv).length (l.map iv)
theorem RN.kp {l:List Nat}(h:RN w v l)(k:Kp w w'):RN w' v l:=di.kp h k
theorem RN.nil (w:World):RN w (.slice none 0 0) []:=di.nil w
theorem RN.shape {l:List Nat}(h:RN w v l):∃ a c,v=.slice a l.length c/\l.length<=c/\c<=maxLen:=by
 have:=di.shape h;rwa [Kw] at this
theorem RN.at {a:Option Addr}{n:Nat}{l:List Nat}(h:RN w (.slice a n c) l)(k:Nat)(f:k<n):
  ∃ b d,a=some ⟨b,d,none⟩/\b<w.heap.size/\∀ i,i<n->w.cell? ⟨b,d+i,none⟩=some (.int .i64 ((l.getD i 0:Nat):Int)):=by
 obtain⟨b,d,o,m,j⟩:=di.at h k f;have p:n=l.length:=by
  obtain⟨r,q,e,_⟩:=h.shape;simp only[JR] at e;exact e.2.1
 refine⟨b,d,o,m,λi g=>?_⟩;rw[j i g,JF,KX,JG (by omega),JF,JG (by omega)];rfl
theorem ON.rn {l:List Nat}(h:ON e w B v l):RN w v l:=di.own h
theorem ON.nil (e:TypeId)(w:World)(B:Nat):ON e w B (.slice none 0 0) []:=Ns _ _ _ _
theorem ON.kp {l:List Nat}(h:ON e w B v l)(k:Kp w w'):ON e w' B v l:=by
 refine⟨h.1,?_⟩;rcases h.2 with d|⟨g,b,a,rfl,f,c,rest⟩
 ·exact .inl d
 ·exact .inr ⟨g,b,a,rfl,f,(Below.block k g (JK.1 c).1).trans c,rest⟩
theorem ON.own_ge {l:List Nat}(h:ON e w B v l):∀ k,v.ownBlock=some k->B<=k:=λk a=>(KU h k a).1
theorem RN.sl {l:List Nat}(h:RN w v l):∃ a n c,v=.slice a n c:=by
 obtain⟨a,c,e,_⟩:=h.shape;exact⟨_,_,_,e⟩
theorem ON.lit1 (w:World)(e:TypeId)(n:Nat):RN (w.alloc (.cells #[.int .i64 (n:Int)] e)) (.slice (some ⟨w.heap.size,0,none⟩) 1 1) [n]:=
 di.own (oN w e (iv n))
theorem qQ {t:TypeId}(S:bM P t e){c:Array Oper}{o:Oper}(g:o.guard=none)(s x:Operand)
  (q:o.op=.call { callee:=.builtin .append,args:=#[s,x],argTypes:=#[t,t] })
  (B:Nat) (v:Value) (l:List Nat) (p:a.eval s=v) (d:ON e w B v l) (u:Value) (n:Nat) (k:a.eval x=u) (m:RN w u [n]) (j:l.length<=1000000) (b:B<=w.heap.size)
  (h:∀ f w',ON e w' B f (l++[n])->w.grownBy w' v.ownBlock->wpList P c Q rest (a.put o.dst f) w'):wpList P c Q (o :: rest) a w:=by
 refine qP S g s x q B v (l.map iv) p d u [iv n] k m (λz i=>by simp at i;subst i;rfl) (by rw[Kw];simp;omega) b (λf w' y r=>h f w' ?_ r);unfold ON;rw[LL];exact y
def nI (n:Int):Value:=.int .i64 n
def RI (w:World)(v:Value)(l:List Int):Prop:=di w v (l.map nI)
def OI (e:TypeId)(w:World)(B:Nat)(v:Value)(l:List Int):Prop:=w.ownsRow B e 1 v (l.map nI).length (l.map nI)
theorem RI.kp (h:RI w v l)(k:Kp w w'):RI w' v l:=di.kp h k
theorem RI.nil (w:World):RI w (.slice none 0 0) []:=di.nil w
theorem RI.shape (h:RI w v l):∃ a c,v=.slice a l.length c/\l.length<=c/\c<=maxLen:=by
 have:=di.shape h;rwa [Kw] at this
theorem RI.sl (h:RI w v l):∃ a n c,v=.slice a n c:=by
 obtain⟨a,c,e,_⟩:=h.shape;exact⟨_,_,_,e⟩
theorem RI.at {a:Option Addr}{n:Nat}(h:RI w (.slice a n c) l)(k:Nat)(f:k<n):
  ∃ b d,a=some ⟨b,d,none⟩/\b<w.heap.size/\∀ i,i<n->w.cell? ⟨b,d+i,none⟩=some (.int .i64 (l.getD i 0)):=by
 obtain⟨b,d,o,m,j⟩:=di.at h k f;have p:n=l.length:=by
  obtain⟨r,q,e,_⟩:=h.shape;simp only[JR] at e;exact e.2.1
 refine⟨b,d,o,m,λi g=>?_⟩;rw[j i g,JF,KX,JG (by omega),JF,JG (by omega)];rfl
theorem RN.ri {l:List Nat}(h:RN w v l):RI w v (l.map fun(n:Nat)=>(n:Int)):=by
 unfold RI;rw[List.map_map];exact h
theorem ON.oi {l:List Nat}(h:ON e w B v l):OI e w B v (l.map fun(n:Nat)=>(n:Int)):=by
 unfold OI;rw[List.map_map];exact h
theorem OI.ri (h:OI e w B v l):RI w v l:=di.own h
theorem OI.nil (e:TypeId)(w:World)(B:Nat):OI e w B (.slice none 0 0) []:=Ns _ _ _ _
theorem oO {n:Nat}{us:List Value}(h:w.ownsRow B e C v n us)(k:Kp w w'):w'.ownsRow B e C v n us:=by
 refine⟨h.1,?_⟩;rcases h.2 with d|⟨g,b,a,rfl,f,c,rest⟩
 ·exact .inl d
 ·exact .inr ⟨g,b,a,rfl,f,(Below.block k g (JK.1 c).1).trans c,rest⟩
theorem OI.kp (h:OI e w B v l)(k:Kp w w'):OI e w' B v l:=oO h k
theorem OI.mono (h:OI e w B v l)(f:C<=B):OI e w C v l:=by
 refine⟨h.1,?_⟩;rcases h.2 with c|⟨g,b,a,d,i,rest⟩
 ·exact .inl c
 ·exact .inr ⟨g,b,a,d,by omega,rest⟩
theorem OI.lt (h:OI e w B v l):∀ k,v.ownBlock=some k->B<=k/\k<w.heap.size:=λk a=>KU h k a
theorem RI.lit (w:World)(e:TypeId)(cs:Array Value)(l:List Int)(n:Nat)(d:l.length=n)(f:n<=1000000)(b:cs.toList=l.map nI):
  OI e (w.alloc (.cells cs e)) w.heap.size (.slice (some ⟨w.heap.size,0,none⟩) n n) l:=by
 subst d;have a:(l.map nI).length=l.length:=Kw ..;unfold OI;rw[a];have c:(w.alloc (.cells cs e)).ownsRow w.heap.size e 1 (.slice (some ⟨w.heap.size,0,none⟩) l.length l.length) l.length cs.toList:=
  LJ w cs l.length (JO _) (by unfold maxLen;omega) (by rw[<-Nh,b,a];omega)
 rw[b] at c;exact c
theorem gG {t:TypeId}(S:bM P t e){c:Array Oper}{o:Oper}(g:o.guard=none)(s x:Operand)
  (r:o.op=.call { callee:=.builtin .append,args:=#[s,x],argTypes:=#[t,t] })
  (B:Nat) (v:Value) (l:List Int) (q:a.eval s=v) (d:OI e w B v l) (u:Value) (m:List Int) (k:a.eval x=u) (p:RI w u m) (i:l.length+m.length<=1000000) (b:B<=w.heap.size)
  (h:∀ f w',OI e w' B f (l++m)->w.grownBy w' v.ownBlock->wpList P c Q rest (a.put o.dst f) w'):wpList P c Q (o :: rest) a w:=by
 refine qP S g s x r B v (l.map nI) q d u (m.map nI) k p (λz j=>?_) (by rw[Kw,Kw];omega) b (λf w' A y=>h f w' ?_ y)
 ·obtain⟨n,_,rfl⟩:=KN.1 j
  rfl
 ·unfold OI
  rw[LL];exact A
def cj (n:Nod)(p u h:Value):List Value:=[.int .i64 n.kind,.int .i64 n.name,p,u,h]
structure NIn (w:World)(n:Nod)(p u h:Value):Prop where
 mk ::
 pub:Rd w p n.pub
 un:RI w u n.un
 hash:Rd w h n.hash
theorem NIn.kp (i:NIn w n p u h)(k:Kp w w'):NIn w' n p u h:=⟨i.pub.kp k,i.un.kp k,i.hash.kp k⟩
def NV (w:World)(v:Value)(n:Nod):Prop:=∃ p u h,v=.agg (cj n p u h).toArray/\NIn w n p u h
theorem NV.kp (h:NV w v n)(k:Kp w w'):NV w' v n:=by
 obtain⟨p,u,h,e,i⟩:=h;exact⟨p,u,h,e,i.kp k⟩
theorem bU (w:World):Rd w (.slice none 0 0) []:=⟨none,0,rfl,JO _,JW _,λ_=>rfl,λx a=>by cases a⟩
theorem NV.blank (w:World):NV w (.agg #[.int .i64 0,.int .i64 0,.slice none 0 0,.slice none 0 0,.slice none 0 0]) aX:=
 ⟨_,_,_,rfl,⟨bU w,RI.nil w,bU w⟩⟩
def NAt (w:World)(b o:Nat)(n:Nod)(p u h:Value):Prop:=w.rangeAt b o (cj n p u h)/\NIn w n p u h
theorem NAt.kp (i:NAt w b o n p u h)(k:Kp w w'):NAt w' b o n p u h:=
 ⟨λj v a=>k.cell (i.1 j v a),i.2.kp k⟩
theorem NAt.kind (i:NAt w b o n p u h):w.cell? ⟨b,o,none⟩=some (.int .i64 n.kind):=i.1 0 _ rfl
theorem NAt.name (i:NAt w b o n p u h):w.cell? ⟨b,o+1,none⟩=some (.int .i64 n.name):=i.1 1 _ rfl
theorem NAt.pubC (i:NAt w b o n p u h):w.cell? ⟨b,o+2,none⟩=some p:=i.1 2 _ rfl
theorem NAt.unC (i:NAt w b o n p u h):w.cell? ⟨b,o+3,none⟩=some u:=i.1 3 _ rfl
theorem NAt.hashC (i:NAt w b o n p u h):w.cell? ⟨b,o+4,none⟩=some h:=i.1 4 _ rfl
def NL (w:World)(v:Value)(t:List Nod):Prop:=
 ∃ a c,v=.slice a t.length c/\t.length<=c/\c<=maxLen/\(a=none->c=0) /\
  (0<t.length->∃ b off,a=some ⟨b,off,none⟩/\b<w.heap.size/\∀ i,i<t.length->∃ p u h,NAt w b (off+i*5) (ats t i) p u h)
theorem NL.kp (h:NL w v t)(k:Kp w w'):NL w' v t:=by
 obtain⟨a,c,e,r,q,o,n⟩:=h;refine⟨a,c,e,r,q,o,λs=>?_⟩;obtain⟨b,d,m,l,j⟩:=n s;refine⟨b,d,m,JV l k.size,λi f=>?_⟩;obtain⟨p,u,h,g⟩:=j i f;exact⟨p,u,h,g.kp k⟩
theorem NL.shape (h:NL w v t):∃ a c,v=.slice a t.length c/\t.length<=c/\c<=maxLen:=by
 obtain⟨a,c,e,d,b,_⟩:=h;exact⟨a,c,e,d,b⟩
theorem NL.sl (h:NL w v t):∃ a n c,v=.slice a n c:=by
 obtain⟨a,c,e,_⟩:=h;exact⟨_,_,_,e⟩
theorem NL.nil (w:World):NL w (.slice none 0 0) []:=⟨none,0,rfl,JO _,JW _,λ_=>rfl,λh=>absurd h (by simp)⟩
theorem NL.at {a:Option Addr}{n:Nat}(h:NL w (.slice a n c) t)(k:Nat)(g:k<n):
  ∃ b d,a=some ⟨b,d,none⟩/\b<w.heap.size/\∀ i,i<n->∃ p u h,NAt w b (d+i*5) (ats t i) p u h:=by
 obtain⟨q,o,e,m,l,j,f⟩:=h;simp only[JR] at e;obtain⟨rfl,rfl,rfl⟩:=e;exact f (by omega)
theorem fx (a:Addr)(n:Nat):(a.add n).block=a.block:=by unfold Addr.add;split <;> rfl
def aQ (v u:Value):Prop:=∀ g,v.ownBlock=some g->∀ x n c,u=.slice (some x) n c->0<n->x.block≠g
theorem aQ.nil (v:Value)(a:Option Addr)(c:Nat):aQ v (.slice a 0 c):=λg b x n d e h=>by
 simp only[JR] at e;omega
def NZ:=@aQ.nil
theorem Rd.apart {l:List UInt8}(h:Rd w u l)(b:∀ g,v.ownBlock=some g->w.heap.size<=g):aQ v u:=λg d x n c e j k=>by
 obtain⟨r,q,a,p,o,m,i⟩:=h;rw[e] at a;simp only[JR] at a;obtain⟨rfl,rfl,rfl⟩:=a;have f:=Kl w _ (i x rfl 0 j);rw[fx] at f;have:=b g d;omega
theorem RI.apart (h:RI w u l)(b:∀ g,v.ownBlock=some g->w.heap.size<=g):aQ v u:=λg d x n c e j k=>by
 obtain⟨r,q,a,p,o,m,i⟩:=h;rw[e] at a;simp only[JR] at a;obtain⟨rfl,rfl,rfl⟩:=a;have f:=Kl w _ (i x rfl 0 j);rw[fx] at f;have:=b g d;omega
theorem OI.apart (h:OI e w B u l)(a:∀ g,v.ownBlock=some g->g<B):aQ v u:=λg b x n c d k f=>by
 have j:=a g b;have i:=(h.lt x.block (by rw[d];rfl)).1;omega
theorem Rd.grown9 {l:List UInt8}(h:Rd w u l)(f:w.grownBy w' v.ownBlock)(j:aQ v u):Rd w' u l:=by
 obtain⟨a,c,e,o,n,m,k⟩:=h;subst e;refine⟨a,c,rfl,o,n,m,λx b i d=>?_⟩;have g:=k x b i d;subst b;exact f.cell g λe=>j x.block (by rw[<-e,fx]) x _ c rfl (by first|omega|(rw[Kw] at d ⊢;omega)) rfl
theorem RI.grown9 (h:RI w u l)(f:w.grownBy w' v.ownBlock)(j:aQ v u):RI w' u l:=by
 obtain⟨a,c,e,o,n,m,k⟩:=h;subst e;refine⟨a,c,rfl,o,n,m,λx b i d=>?_⟩;have g:=k x b i d;subst b;exact f.cell g λe=>j x.block (by rw[<-e,fx]) x _ c rfl (by first|omega|(rw[Kw] at d ⊢;omega)) rfl
theorem NIn.grown (i:NIn w n p u h)(a:w.grownBy w' v.ownBlock)(d:aQ v p)(c:aQ v u)(b:aQ v h):NIn w' n p u h:=
 ⟨i.pub.grown9 a d,i.un.grown9 a c,i.hash.grown9 a b⟩
def NO (e:TypeId)(w:World)(B:Nat)(v:Value)(t:List Nod):Prop:=
 ∃ us:List Value,w.ownsRow B e 5 v t.length us/\(∀ z∈us,z.oneCell'=true) /\
  ∀ i,i<t.length->∃ p u h,(∀ f,f<5->us[i*5+f]?=(cj (ats t i) p u h)[f]?)/\NIn w (ats t i) p u h/\aQ v p/\aQ v u/\aQ v h
theorem NO.kp (h:NO e w B v t)(k:Kp w w'):NO e w' B v t:=by
 obtain⟨us,d,c,b⟩:=h;refine⟨us,oO d k,c,λi a=>?_⟩;obtain⟨p,u,h,j,g,f⟩:=b i a;exact⟨p,u,h,j,g.kp k,f⟩
theorem NO.lt (h:NO e w B v t):∀ k,v.ownBlock=some k->B<=k/\k<w.heap.size:=by
 obtain⟨us,b,_⟩:=h;exact λk a=>KU b k a
theorem NO.form (h:NO e w B v t)(y:0<t.length):
  ∃ g c,v=.slice (some ⟨g,0,none⟩) t.length c/\B<=g/\g<w.heap.size/\t.length<=c/\c<=maxLen /\
   ∀ i,i<t.length->∃ p u h,NAt w g (i*5) (ats t i) p u h/\aQ v p/\aQ v u/\aQ v h:=by
 obtain⟨us,d,s,n⟩:=h;have a:=λk l=>KU d k l
 rcases id d.2 with⟨_,hn⟩|⟨g,cap,cur,rfl,hb,hg,hn,hm,hs,ht⟩
 ·omega
 ·refine⟨g,cap,rfl,hb,(a g rfl).2,hn,hm,λi m=>?_⟩
  obtain⟨p,u,h,r,q,o⟩:=n i m;refine⟨p,u,h,⟨λj x f=>?_,q⟩,o⟩;have b:j<5:=(Ks.1 f).1;rw[d.cellAt (i*5+j) (by omega),r j b];exact f
theorem NO.nl (h:NO e w B v t):NL w v t:=by
 by_cases n:0<t.length
 ·obtain⟨g,c,rfl,k,f,b,m,l⟩:=h.form n
  refine⟨_,c,rfl,b,m,λh=>(by cases h),λ_=>⟨g,0,rfl,f,λi j=>?_⟩⟩;rw[Lf];obtain⟨p,u,h,a,_⟩:=l i j;exact⟨p,u,h,a⟩
 ·have d:t=[]:=Kg (by omega)
  subst d;obtain⟨us,b,_⟩:=h;rcases b.2 with⟨rfl,_⟩|⟨g,cap,cur,rfl,k,f,a,hm,hs,d⟩
  ·exact NL.nil w
  ·exact⟨_,cap,rfl,a,hm,λh=>(by cases h),λh=>absurd h (by simp)⟩
theorem NO.empty (e:TypeId)(w:World):NO e (w.alloc (.cells #[] e)) w.heap.size (.slice (some ⟨w.heap.size,0,none⟩) 0 0) []:=
 ⟨[],LJ w #[] 0 (JO _) (by unfold maxLen;omega) rfl,λz a=>by simp at a,λi b=>by simp at b⟩
theorem oP (i:NIn w n p u h):∀ z∈cj n p u h,z.oneCell'=true:=by
 obtain⟨q,g,l,rfl⟩:∃ a n c,p=.slice a n c:=by obtain⟨a,c,e,_⟩:=i.pub.shape;exact⟨_,_,_,e⟩
 obtain⟨o,f,k,rfl⟩:=i.un.sl;obtain⟨m,d,j,rfl⟩:∃ a n c,h=.slice a n c:=by obtain⟨a,c,e,_⟩:=i.hash.shape;exact⟨_,_,_,e⟩
 intro z b;unfold cj at b;simp only[Lu,Mw,or_false] at b;rcases b with rfl|rfl|rfl|rfl|rfl <;> rfl
theorem NO.there {n:Nat}(h:NO e w B (.slice (some ⟨g,0,none⟩) n c) t)(i:Nat)(f:i<t.length):w.there g (i*5) 5:=by
 obtain⟨us,a,l,k⟩:=h;have b:t.length=n:=by
  rcases a.2 with⟨e,_⟩|⟨g',cap,cur,e,_⟩
  ·simp at e
  ·simp only[JR] at e;exact e.2.1.symm
 subst b;intro j d;refine⟨?_,a.frozenAt _⟩;rw[a.cellAt (i*5+j) (by omega),JG (by rw[a.1];omega)];rfl
theorem oQ {e:TypeId}{B g n cap C:Nat}:∀ (vs:List Value) (o:Nat) (w:World) (xs:List Value),w.ownsRow B e C (.slice (some ⟨g,0,none⟩) n cap) n xs->o+vs.length<=xs.length ->
  ∃ ys,(w.setCells g o vs).ownsRow B e C (.slice (some ⟨g,0,none⟩) n cap) n ys/\w.grownBy (w.setCells g o vs) (some g)/\ys.length=xs.length/\∀ k,ys[k]?=if o<=k/\k<o+vs.length then vs[k - o]? else xs[k]?
 | [],o,w,xs,h,_=>⟨xs,h,⟨rfl,rfl,rfl,JO _,λ_ _ _=>rfl⟩,rfl,λk=>by rw[if_neg (by simp only[Kf];omega)]⟩
 | v :: vs,o,w,xs,h,hl=>by
  obtain⟨h1,g1⟩:=h.stored o v
  obtain⟨ys,h2,g2,hl2,h3⟩:=oQ vs (o+1) (w.setCell ⟨g,o,none⟩ v) (xs.set o v) h1 (by rw[Km];simp at hl;omega)
  refine⟨ys,h2,⟨g2.os.trans g1.os,g2.tape.trans g1.tape,g2.output.trans g1.output,Kd g1.size g2.size,λk hk hn=>(g2.block k (JV hk g1.size) hn).trans (g1.block k hk hn)⟩,by rw[hl2,Km],λk=>?_⟩
  rw[h3 k]
  simp only[Ka] at hl ⊢
  by_cases h4:o+1<=k/\k<o+1+vs.length
  ·rw[if_pos h4,if_pos ⟨by omega,by omega⟩,show k - o=(k - (o+1))+1 by omega,JU]
  ·rw[if_neg h4,MX]
   by_cases h5:o=k
   ·subst h5
    rw[if_pos rfl,if_pos (by omega),if_pos ⟨by omega,by omega⟩,Mq]
    rfl
   ·rw[if_neg h5,if_neg (by omega)]
theorem NO.stored {n:Nat}(h:NO e w B (.slice (some ⟨g,0,none⟩) n c) t)(i:Nat)(P:i<t.length)(m:Nod)(p u q:Value)(b:NIn w m p u q)
  (y:aQ (.slice (some ⟨g,0,none⟩) n c) p) (x:aQ (.slice (some ⟨g,0,none⟩) n c) u) (s:aQ (.slice (some ⟨g,0,none⟩) n c) q):
  NO e (w.setCells g (i*5) (cj m p u q)) B (.slice (some ⟨g,0,none⟩) n c) (t.set i m)/\w.grownBy (w.setCells g (i*5) (cj m p u q)) (some g):=by
 obtain⟨us,l,M,L⟩:=h;have O:t.length=n:=by
  rcases l.2 with⟨e,_⟩|⟨g',cap,cur,e,_⟩
  ·simp at e
  ·simp only[JR] at e;exact e.2.1.symm
 subst O;have o:=l.1;obtain⟨G,H,j,S,d⟩:=oQ (cj m p u q) (i*5) w us l (by rw[o];show i*5+5<=_;omega);refine⟨⟨G,by rw[Km];exact H,λz N=>?_,λk a=>?_⟩,j⟩
 ·obtain⟨k,a⟩:=List.getElem?_of_mem N
  rw[d] at a;split at a
  ·exact oP b z (Lx a)
  ·exact M z (Lx a)
 ·rw[Km] at a
  have A:(cj m p u q).length=5:=rfl;rw[fm t i m k P];by_cases C:k=i
  ·subst C
   rw[if_pos rfl];refine⟨p,u,q,λf r=>?_,b.grown (v:=.slice (some ⟨g,0,none⟩) t.length c) j y x s,y,x,s⟩;rw[d,A,if_pos ⟨by omega,by omega⟩,Mo]
  ·rw[if_neg C]
   obtain⟨K,I,J,R,Q,F,E,D⟩:=L k a;refine⟨K,I,J,λf r=>?_,Q.grown (v:=.slice (some ⟨g,0,none⟩) t.length c) j F E D,F,E,D⟩;rw[d,A,if_neg (by omega)];exact R f r
structure S5 (P:Program)(t e:TypeId):Prop where
 mk ::
 ht:P.underlying t=some (.slice e)
 hi:∃ i z,P.info? e=some i/\i.zero=some z/\i.size=5/\i.bytes<=128/\z.cells.size=5
theorem S5.mk' {t:TypeId}{z:Value}(g:P.underlying t=some (.slice e))(h:(P.info? e).map (λi=>(i.zero,i.size,i.bytes))=some (some z,5,b))(k:b<=128)(f:z.cells.size=5):S5 P t e:=by
 obtain⟨i,j,c,a,d⟩:=info_parts h;exact⟨g,i,z,j,c,a,by omega,f⟩
def NAp (w:World)(v u:Value)(t:List Nod):Prop:=
 ∃ a c,u=.slice a t.length c/\t.length<=c/\c<=maxLen/\(a=none->c=0) /\
  (0<t.length->∃ b off,a=some ⟨b,off,none⟩/\∀ i,i<t.length->∃ p u h,NAt w b (off+i*5) (ats t i) p u h/\aQ v p/\aQ v u/\aQ v h)
theorem NL.apart (h:NL w u t)(k:Kp w w')(j:∀ g,v.ownBlock=some g->w.heap.size<=g):NAp w' v u t:=by
 obtain⟨a,c,e,s,r,q,o⟩:=h;refine⟨a,c,e,s,r,q,λx=>?_⟩;obtain⟨b,f,n,_,m⟩:=o x;refine⟨b,f,n,λi l=>?_⟩;obtain⟨p,u,h,d⟩:=m i l;exact⟨p,u,h,d.kp k,d.2.pub.apart j,d.2.un.apart j,d.2.hash.apart j⟩
theorem NL.apart_blank (h:NL w u t)(n:∀ i,ats t i=aX):NAp w v u t:=by
 obtain⟨a,c,e,x,s,r,q⟩:=h;refine⟨a,c,e,x,s,r,λy=>?_⟩;obtain⟨b,f,o,_,m⟩:=q y;refine⟨b,f,o,λi g=>?_⟩;obtain⟨p,u,h,d⟩:=m i g;have e:=n i;obtain⟨E,B,l,_⟩:=d.2.pub.shape;obtain⟨D,A,k,_⟩:=d.2.un.shape;obtain⟨C,z,j,_⟩:=d.2.hash.shape;rw[e] at l k j;refine⟨p,u,h,d,?_,?_,?_⟩
 ·rw[l];exact NZ v E B
 ·rw[k];exact NZ v D A
 ·rw[j];exact NZ v C z
theorem NAp.flat {a:Nat}(h:∀ i,i<t.length->∃ p u h,NAt w b (a+i*5) (ats t i) p u h/\aQ v p/\aQ v u/\aQ v h):
  ∃ us:List Value,us.length=t.length*5/\(∀ z∈us,z.oneCell'=true)/\(∀ j z,us[j]?=some z->w.cell? ⟨b,a+j,none⟩=some z) /\
   ∀ i,i<t.length->∃ p u h,(∀ f,f<5->us[i*5+f]?=(cj (ats t i) p u h)[f]?)/\NIn w (ats t i) p u h/\aQ v p/\aQ v u/\aQ v h:=by
 have key:∀ n,n<=t.length->∃ us:List Value,us.length=n*5/\(∀ z∈us,z.oneCell'=true)/\(∀ j z,us[j]?=some z->w.cell? ⟨b,a+j,none⟩=some z) /\
   ∀ i,i<n->∃ p u h,(∀ f,f<5->us[i*5+f]?=(cj (ats t i) p u h)[f]?)/\NIn w (ats t i) p u h/\aQ v p/\aQ v u/\aQ v h:=by
  intro n;induction n with
  | zero=>exact λ_=>⟨[],rfl,λz c=>by simp at c,λj z d=>by simp at d,λi C=>by omega⟩
  | succ n ih=>
   intro H;obtain⟨us,e,B,A,y⟩:=ih (by omega);obtain⟨p,u,q,⟨D,l⟩,m⟩:=h n (by omega);have E:(cj (ats t n) p u q).length=5:=rfl;refine⟨us++cj (ats t n) p u q,by rw[JQ,e,E];omega,λz c=>?_,λj z d=>?_,λi C=>?_⟩
   ·rcases Le.1 c with c|c
    ·exact B z c
    ·exact oP l z c
   ·by_cases g:j<us.length
    ·rw[Kt g] at d
     exact A j z d
    ·rw[Kn (by omega)] at d
     have:=D _ z d;rw[e] at this g;rwa [show a+n*5+(j - n*5)=a+j by omega] at this
   ·by_cases k:i<n
    ·obtain⟨x,r,s,G,F⟩:=y i k
     refine⟨x,r,s,λf o=>?_,F⟩;rw[Kt (by rw[e];omega)];exact G f o
    ·have:i=n:=by omega
     subst this;refine⟨p,u,q,λf o=>?_,l,m⟩;rw[Kn (by rw[e];omega),e,Mo]
 exact key t.length (JO _)
theorem aQ.moved {b:Value}{l:List UInt8}(h:aQ v u)(c:Rd w u l)(k:b.ownBlock=v.ownBlock\/b.ownBlock=some w.heap.size):aQ b u:=by
 rcases k with k|k
 ·exact λg a=>h g (k▸a)
 ·exact c.apart λg a=>by rw[k] at a;cases a;exact JO _
theorem aQ.movedI {b:Value}(h:aQ v u)(c:RI w u l)(k:b.ownBlock=v.ownBlock\/b.ownBlock=some w.heap.size):aQ b u:=by
 rcases k with k|k
 ·exact λg a=>h g (k▸a)
 ·exact c.apart λg a=>by rw[k] at a;cases a;exact JO _
theorem Aq (t m:List Nod)(i:Nat):ats (t++m) i=if i<t.length then ats t i else ats m (i - t.length):=by
 unfold ats;rw[JF];split
 ·next h=>rw[Kt h,JF]
 ·next h=>rw[Kn (by omega),JF]
theorem mH {t:TypeId}(S:S5 P t e){O:Array Oper}{o:Oper}(K:o.guard=none)(s x:Operand)
  (ho:o.op=.call { callee:=.builtin .append,args:=#[s,x],argTypes:=#[t,t] })
  (B:Nat) (v:Value) (n:List Nod) (hs:a.eval s=v) (T:NO e w B v n) (u:Value) (M:List Nod) (hx:a.eval x=u) (hu:NAp w v u M) (C:n.length+M.length<=1000000) (l:B<=w.heap.size)
  (h:∀ m w',NO e w' B m (n++M)->w.grownBy w' v.ownBlock->(m.ownBlock=v.ownBlock\/m.ownBlock=some w.heap.size)->wpList P O Q rest (a.put o.dst m) w'):wpList P O Q (o :: rest) a w:=by
 obtain⟨i,z,hi,hz,k,V,R⟩:=S.hi;obtain⟨us,W,h2,h3⟩:=T;obtain⟨ad,c,rfl,hc,hm,U,L⟩:=hu;by_cases h0:0<M.length
 ·obtain⟨b,Y,rfl,hn⟩:=L h0
  obtain⟨A,n1,n2,n3,n4⟩:=NAp.flat hn;refine wpList_append_own_at w K s x t ho B e i z 5 i.bytes S.ht hi hz k rfl R (by decide) v n.length us hs W ⟨b,Y,none⟩ M.length c A hx n1 (λj y D=>?_) n2 (by unfold maxLen;omega) ?_ l
   (λm w' Z N _ g=>h m w' ⟨us++A,by rw[JQ];exact Z,λy H=>?_,λj D=>?_⟩ N g)
  ·rw[Addr.add_mid]
   exact n3 j y D
  ·have:=LS C V
   omega
  ·rcases Le.1 H with H|H
   ·exact h2 y H
   ·exact n2 y H
  ·have I:=W.1
   rw[Aq];by_cases J:j<n.length
   ·rw[if_pos J]
    obtain⟨p,q,r,X,d,G,F,E⟩:=h3 j J;refine⟨p,q,r,λf hf=>?_,d.grown N G F E,G.moved d.pub g,F.movedI d.un g,E.moved d.hash g⟩;rw[Kt (by rw[I];omega)];exact X f hf
   ·rw[if_neg J]
    rw[JQ] at D;obtain⟨p,q,r,X,d,G,F,E⟩:=n4 (j - n.length) (by omega);refine⟨p,q,r,λf hf=>?_,d.grown N G F E,G.moved d.pub g,F.movedI d.un g,E.moved d.hash g⟩;rw[Kn (by rw[I];omega),I,<-X f hf];congr 1
    omega
 ·have aa:M=[]:=Kg (by omega)
  subst aa;cases ad with
  | none=>
   have ab:=U rfl;subst ab;refine wpList_append_own_none K s x t ho B e i 5 S.ht hi v n.length us hs W hx ?_;exact h v w ⟨us,by simpa using W,h2,by simpa using h3⟩ ⟨rfl,rfl,rfl,JO _,λ_ _ _=>rfl⟩ (.inl rfl)
  | some ad=>
   refine wpList_append_own_at w K s x t ho B e i z 5 i.bytes S.ht hi hz k rfl R (by decide) v n.length us hs W ad 0 c [] hx rfl (λj y D=>by simp at D) (λy H=>by simp at H) (by unfold maxLen;omega) ?_ l
    (λm w' Z N _ g=>h m w' ⟨us,by simpa using Z,h2,λj D=>?_⟩ N g)
   ·have:=LS C V
    simp only[Kf] at this;omega
   ·rw[Lr] at D ⊢
    obtain⟨p,q,r,X,d,G,F,E⟩:=h3 j D;exact⟨p,q,r,X,d.grown N G F E,G.moved d.pub g,F.movedI d.un g,E.moved d.hash g⟩
theorem lm {j:TypeId}(k:(P.info? j).map (·.size)=some 5){d:Array Oper}{o:Oper}(l:o.guard=none)(D:o.dst=none)(x y:Operand)
  (C:o.op=.store j x y) (B g c n:Nat) (t:List Nod) (b:NO e w B (.slice (some ⟨g,0,none⟩) n c) t) (i:Nat) (r:i<t.length) (m:Nod) (p u q:Value)
  (A:a.eval x=.pointer (some ⟨g,i*5,none⟩)) (z:a.eval y=.agg #[.int .i64 m.kind,.int .i64 m.name,p,u,q]) (f:NIn w m p u q)
  (G:aQ (.slice (some ⟨g,0,none⟩) n c) p) (F:aQ (.slice (some ⟨g,0,none⟩) n c) u) (E:aQ (.slice (some ⟨g,0,none⟩) n c) q)
  (h:∀ w',NO e w' B (.slice (some ⟨g,0,none⟩) n c) (t.set i m)->w.grownBy w' (some g)->wpList P d Q rest a w'):wpList P d Q (o :: rest) a w:=by
 obtain⟨v,s⟩:=b.stored i r m p u q f G F E;refine wpList_store_mid l j x y C g (i*5) (cj m p u q).toArray A z (b.there i r) k (all_oneCell_toArray (oP f)) ?_;rw[D];exact h _ v s
theorem info83:(prog.info? 3).map (λi=>(i.zero,i.size,i.bytes))=some (some (.int .i64 0),1,8):=by kernel_rfl
theorem gx:bM prog 34 3:=bM.mk' underlying34 info83 (by decide) rfl
theorem Dj (x n:Int)(w:World)(c:-9223372036854775808<=n/\n<=9223372036854775807):Calls prog 130 #[.int .i64 x,.int .i64 n] w λe w'=>e=.returned (.tuple #[.int .i64 (siV x n),.int .i64 (paE x n)])/\w=w':=by
 have l:=JE (pG x n w c);by_cases h:inB x n=true
 ·obtain⟨K,j,q,y,rfl,rfl,s,i⟩:=(iF x n).1 h
  by_cases u:j=K
  ·subst u
   have a:q=0:=by simp at i;exact i
   subst a;obtain⟨b,f,d⟩:=tN y;rw[b,f] at l;rw[b,d];clear h b f d c i s;go_enter func130,ntmps130;go_wp2_with fail;refine l.out.mono ?_;rintro _ _ ⟨rfl,rfl⟩;go_wp2_with fail;go_ret2;exact⟨rfl,rfl⟩
  ·obtain⟨b,f,d⟩:=oK (K:=K) (j:=j) (q:=q) y (by omega) i
   have k:j+1<=10:=by omega
   have g:q / 2<2 ^ (10 - (j+1)):=by
    have B:q<2 ^ (10 - j):=(ec y s i).2.2;have e:10 - j=(10 - (j+1))+1:=by omega
    rw[e,bi] at B;omega
   obtain⟨t,A,z⟩:=fK (j:=j) (q:=q / 2) k g;have r:=JE (lO ((nd (j+1) (q / 2):Nat):Int) w);have p:=JE (lP ((nd (j+1) (q / 2):Nat):Int) w);rw[t,A] at r;rw[t,z] at p;rw[b,f] at l;rw[b,d];by_cases a:q % 2=0
   ·have o:2*(q / 2)=q:=by omega
    have m:2*(q / 2)+1=sq q:=by unfold sq;rw[if_pos a];omega
    rw[m] at p;rw[o] at r;generalize ((nd j q:Nat):Int)=X at *;generalize ((nd j (sq q):Nat):Int)=Y at *;generalize ((nd (j+1) (q / 2):Nat):Int)=P at *;clear h b f d c i s t A z u k g a o m;go_enter func130,ntmps130;go_wp2_with fail;refine l.out.mono ?_;rintro _ _ ⟨rfl,rfl⟩;go_wp2_with fail;refine r.out.mono ?_;rintro _ _ ⟨rfl,rfl⟩;go_wp2_with fail;refine p.out.mono ?_;rintro _ _ ⟨rfl,rfl⟩;go_wp2_with fail;go_ret2;exact⟨rfl,rfl⟩
   ·have o:2*(q / 2)+1=q:=by omega
    have m:2*(q / 2)=sq q:=by unfold sq;rw[if_neg a];omega
    have v:¬((nd j (sq q):Nat):Int)=((nd j q:Nat):Int):=λC=>by
     have:=(jd (Int.ofNat.inj C)).2;omega
    rw[o] at p;rw[m] at r;generalize ((nd j q:Nat):Int)=X at *;generalize ((nd j (sq q):Nat):Int)=Y at *;generalize ((nd (j+1) (q / 2):Nat):Int)=P at *;have D:(Y==X)=false:=JL.2 v;clear h b f d c i s t A z u k g a o m;go_enter func130,ntmps130;go_wp2_with fail;refine l.out.mono ?_;rintro _ _ ⟨rfl,rfl⟩;go_wp2_with fail;refine r.out.mono ?_;rintro _ _ ⟨rfl,rfl⟩;go_wp2_with fail;refine p.out.mono ?_;rintro _ _ ⟨rfl,rfl⟩;go_wp2_with fail;go_ret2;exact⟨rfl,rfl⟩
 ·obtain⟨b,f,d⟩:=tM h
  rw[b,f] at l;rw[b,d];clear h b f d c;go_enter func130,ntmps130;go_wp2_with fail;refine l.out.mono ?_;rintro _ _ ⟨rfl,rfl⟩;go_wp2_with fail;go_ret2;exact⟨rfl,rfl⟩
structure Way (K j q:Nat):Prop where
 node:∀ i,i<=K - j->0<=((nd (j+i) (q / 2 ^ i):Nat):Int)/\((nd (j+i) (q / 2 ^ i):Nat):Int)<=2046/\lev (nd (j+i) (q / 2 ^ i))=j+i
 root:∀ i,i<=K - j->(((nd (j+i) (q / 2 ^ i):Nat):Int)=((2 ^ K:Nat):Int) - 1↔i=K - j)
 up:∀ i,i<K - j->paE ((nd (j+i) (q / 2 ^ i):Nat):Int) ((2 ^ K:Nat):Int)=0/\paV ((nd (j+i) (q / 2 ^ i):Nat):Int) ((2 ^ K:Nat):Int)=((nd (j+(i+1)) (q / 2 ^ (i+1)):Nat):Int)/\siV ((nd (j+i) (q / 2 ^ i):Nat):Int) ((2 ^ K:Nat):Int)=((nd (j+i) (sq (q / 2 ^ i)):Nat):Int)
theorem way {K j q:Nat}(d:K<=10)(m:j<=K)(f:q<2 ^ (K - j)):Way K j q:=by
 have b:∀ i,i<=K - j->q / 2 ^ i<2 ^ (K - (j+i)):=λi a=>ke f a
 refine⟨λi a=>?_,λi a=>?_,λi a=>?_⟩
 ·obtain⟨c,g,e⟩:=ec d (j:=j+i) (by omega) (b i a)
  exact⟨by omega,by omega,fV _ _ (by omega)⟩
 ·have c:=tD (b i a) (show j+i<=K by omega)
  have g:=bE K;generalize nd (j+i) (q / 2 ^ i)=X at *;generalize 2 ^ K=N at *;constructor
  ·intro e
   have:=c.1 (by omega);omega
  ·intro e
   have:=c.2 (by omega);omega
 ·obtain⟨l,k,h⟩:=oK (K:=K) (j:=j+i) (q:=q / 2 ^ i) d (by omega) (b i (by omega))
  refine⟨l,?_,h⟩;rw[k,oI];rfl
theorem pH (K j q:Nat)(w:World)(C:K<=10)(P:j<=K)(z:q<2 ^ (K - j)):
  Calls prog 48 #[.int .i64 ((nd j q:Nat):Int),.int .i64 ((2 ^ K:Nat):Int)] w λe w'=>(∃ v,e=.returned (.tuple #[v,.int .i64 0])/\ON 3 w' w.heap.size v (aL K j q))/\Kp w w':=by
 have S:=gx;have l:=(iF ((nd j q:Nat):Int) ((2 ^ K:Nat):Int)).2 ⟨K,j,q,C,rfl,rfl,P,z⟩;have hb:=bP C;have B:=bE K;have c:-9223372036854775808<=((2 ^ K:Nat):Int)/\((2 ^ K:Nat):Int)<=9223372036854775807:=by omega
 have s:=JE (mD ((nd j q:Nat):Int) ((2 ^ K:Nat):Int) w c);rw[l] at s;obtain⟨y,w2,u⟩:=way C P z;have V:=JE (tG K j q);have X:=JE (mw K j q);have I:Hid (∀ i W,i<K - j->Calls prog 80 #[.int .i64 ((nd (j+i) (q / 2 ^ i):Nat):Int),.int .i64 ((2 ^ K:Nat):Int)] W λe w'=>e=.returned (.tuple #[.int .i64 ((nd (j+(i+1)) (q / 2 ^ (i+1)):Nat):Int),.int .i64 0])/\W=w'):=λi W b=>by
  have:=pG ((nd (j+i) (q / 2 ^ i):Nat):Int) ((2 ^ K:Nat):Int) W c;rwa [(u i b).1,(u i b).2.1] at this
 have i1:IntKind.i64.wrap (((2 ^ K:Nat):Int) - 1)=((2 ^ K:Nat):Int) - 1:=JI _ (by omega);obtain⟨f,r⟩:∃ f:Nat->Nat,f=λi=>nd (j+i) (q / 2 ^ i):=⟨_,rfl⟩
 have m:∀ i,nd (j+i) (q / 2 ^ i)=f i:=λi=>by rw[r]
 have n:nd j q=f 0:=by rw[r];simp
 have d:Hid (∀ i,i<K - j->(aL K j q).take (i+1)=(aL K j q).take i++[f (i+1)]):=λi b=>by
  rw[V.out i b];rw[r];simp only[];congr 3;omega
 have O:Hid ((aL K j q).take (K - j)=aL K j q):=by unfold Hid;rw[Ku (by rw[X.out];omega)]
 generalize aL K j q=F at *;simp only[m] at *;rw[n] at s ⊢;have E:=JE y;have D:=JE w2;have ad:K - j<=10:=by omega
 have t:Hid (∀ i,i<=K - j->lev (f i)=j+i):=λi b=>(y i b).2.2
 generalize ((2 ^ K:Nat):Int)=N at *;clear l hb B c y w2 u V r m n z;go_enter func48,ntmps48;go_wp2_with fail;refine s.out.mono ?_;rintro _ _ ⟨rfl,rfl⟩;clear s;go_wp2_with fail;go_loopw[0,7] (λx v wr=>∃ i:Nat,i<=K - j/\x=.int .i64 ((f i:Nat):Int)/\ON 3 wr w.heap.size v (F.take i)/\Kp w wr) (λx _ _=>(20 - lev (intOf x).toNat))
 case atStart=>exact⟨0,JW _,rfl,ON.nil _ _ _,NQ _⟩
 case round=>
  obtain⟨i,b,rfl,g,p⟩:=hrel;have a:=D.out i b;obtain⟨U,T,Q⟩:=E.out i b;by_cases k:i<K - j
  ·have A:¬((f i:Nat):Int)=N - 1:=λh=>by have:=a.1 h;omega
   have ae:(((f i:Nat):Int)==N - 1)=false:=JL.2 A;have H:=JE (I.out i wr k);have G:=JE (d.out i k);have J:=JE (JN (t.out i b) (t.out (i+1) (by omega)));have aa:=p.size;have M:Hid ((F.take i).length<=1000000):=by unfold Hid;rw[Ki,X.out];omega
   generalize F.take i=L at *;clear E D I d O t a U T Q;go_wp2_with fail;refine H.out.mono ?_;rintro _ _ ⟨rfl,rfl⟩;go_wp2_with(at_builtin;refine qQ (o:=⟨some 28,_,_,_,_,_⟩) S rfl _ _ rfl w.heap.size _ L rfl (g.kp ((NQ wr).alloc _)) _ _ rfl (ON.lit1 wr 3 (f (i+1))) M.out (by simp;omega) ?_;intro v4 Y Z g4;have k4:Kp w Y:=NS (p.alloc _) g4 g.own_ge)
   go_roundw
   case rel=>exact⟨i+1,by omega,rfl,by rw[G.out];exact Z,k4⟩
   case measure=>have:=J.out;simp[intOf];omega
  ·obtain rfl:i=K - j:=by omega
   have ab:((f (K - j):Nat):Int)=N - 1:=a.2 rfl;rw[O.out] at g;have R:=JE g;obtain⟨av,nv,cv,rfl⟩:=g.rn.sl;have KK:=JE p;clear E D I d O t a U T Q g p;go_wp2_with fail;go_ret2;exact⟨⟨_,rfl,R.out⟩,KK.out⟩
theorem ww (x n:Int)(w:World)(a:-9223372036854775808<=n/\n<=9223372036854775807):
  Calls prog 48 #[.int .i64 x,.int .i64 n] w λe w'=>(∃ v,e=.returned (.tuple #[v,.int .i64 (arE x n)])/\ON 3 w' w.heap.size v (mC x n))/\Kp w w':=by
 by_cases h:inB x n=true
 ·obtain⟨K,j,q,g,rfl,rfl,f,d⟩:=(iF x n).1 h
  obtain⟨c,b,k⟩:=tO g f d;rw[c,b];exact pH K j q w g f d
 ·obtain⟨c,b,k⟩:=zP h
  have i:inB x n=false:=by rw[LM];exact h
  have l:=JE (mD x n w a);rw[i] at l;rw[c,b];clear h i c b k a;go_enter func48,ntmps48;go_wp2_with fail;refine l.out.mono ?_;rintro _ _ ⟨rfl,rfl⟩;go_wp2_with fail;go_ret2;exact⟨⟨_,rfl,ON.nil _ _ _⟩,NQ _⟩
theorem Dk (K j q:Nat)(w:World)(F:K<=10)(X:j<=K)(A:q<2 ^ (K - j)):
  Calls prog 91 #[.int .i64 ((nd j q:Nat):Int),.int .i64 ((2 ^ K:Nat):Int)] w λe w'=>(∃ v,e=.returned (.tuple #[v,.int .i64 0])/\RN w' v (cZ K j q))/\Kp w w':=by
 have S:=gx;have n:=(iF ((nd j q:Nat):Int) ((2 ^ K:Nat):Int)).2 ⟨K,j,q,F,rfl,rfl,X,A⟩;have hb:=bP F;have E:=bE K;have c:-9223372036854775808<=((2 ^ K:Nat):Int)/\((2 ^ K:Nat):Int)<=9223372036854775807:=by omega
 have u:=JE (mD ((nd j q:Nat):Int) ((2 ^ K:Nat):Int) w c);rw[n] at u;obtain⟨z,w2,m⟩:=way F X A;have HT:=JE (tH K j q);have HL:=JE (oH K j q);have Q:Hid (∀ i W,i<K - j->Calls prog 80 #[.int .i64 ((nd (j+i) (q / 2 ^ i):Nat):Int),.int .i64 ((2 ^ K:Nat):Int)] W λe w'=>e=.returned (.tuple #[.int .i64 ((nd (j+(i+1)) (q / 2 ^ (i+1)):Nat):Int),.int .i64 0])/\W=w'):=λi W b=>by
  have:=pG ((nd (j+i) (q / 2 ^ i):Nat):Int) ((2 ^ K:Nat):Int) W c;rwa [(m i b).1,(m i b).2.1] at this
 have O:Hid (∀ i W,i<K - j->Calls prog 130 #[.int .i64 ((nd (j+i) (q / 2 ^ i):Nat):Int),.int .i64 ((2 ^ K:Nat):Int)] W λe w'=>e=.returned (.tuple #[.int .i64 ((nd (j+i) (sq (q / 2 ^ i)):Nat):Int),.int .i64 0])/\W=w'):=λi W b=>by
  have:=Dj ((nd (j+i) (q / 2 ^ i):Nat):Int) ((2 ^ K:Nat):Int) W c;rwa [(m i b).1,(m i b).2.2] at this
 have i1:IntKind.i64.wrap (((2 ^ K:Nat):Int) - 1)=((2 ^ K:Nat):Int) - 1:=JI _ (by omega);obtain⟨f,D⟩:∃ f:Nat->Nat,f=λi=>nd (j+i) (q / 2 ^ i):=⟨_,rfl⟩
 have r:∀ i,nd (j+i) (q / 2 ^ i)=f i:=λi=>by rw[D]
 obtain⟨g,C⟩:∃ g:Nat->Nat,g=λi=>nd (j+i) (sq (q / 2 ^ i)):=⟨_,rfl⟩
 have p:∀ i,nd (j+i) (sq (q / 2 ^ i))=g i:=λi=>by rw[C]
 have s:nd j q=f 0:=by rw[D];simp
 have k:Hid (∀ i,i<K - j->(cZ K j q).take (i+1)=(cZ K j q).take i++[g i]):=λi b=>by
  rw[HT.out i b];rw[C]
 have V:Hid ((cZ K j q).take (K - j)=cZ K j q):=by unfold Hid;rw[Ku (by rw[HL.out];omega)]
 generalize cZ K j q=I at *;simp only[r,p] at *;rw[s] at u ⊢;have H:=JE z;have G:=JE w2;have ad:K - j<=10:=by omega
 have y:Hid (∀ i,i<=K - j->lev (f i)=j+i):=λi b=>(z i b).2.2
 generalize ((2 ^ K:Nat):Int)=N at *;clear n hb E c z w2 m HT D r C p s A;go_enter func91,ntmps91;go_wp2_with fail;refine u.out.mono ?_;rintro _ _ ⟨rfl,rfl⟩;clear u;go_wp2_with fail;go_loopw[0,7] (λx v wr=>∃ i:Nat,i<=K - j/\x=.int .i64 ((f i:Nat):Int)/\ON 3 wr w.heap.size v (I.take i)/\Kp w wr) (λx _ _=>(20 - lev (intOf x).toNat))
 case atStart=>exact⟨0,JW _,rfl,ON.nil _ _ _,NQ _⟩
 case round=>
  obtain⟨i,b,rfl,l,t⟩:=hrel;have a:=G.out i b;obtain⟨b1,Z,Y⟩:=H.out i b;by_cases d:i<K - j
  ·have B:¬((f i:Nat):Int)=N - 1:=λh=>by have:=a.1 h;omega
   have ae:(((f i:Nat):Int)==N - 1)=false:=JL.2 B;have P:=JE (Q.out i wr d);have M:=JE (O.out i wr d);have J:=JE (k.out i d);have T:=JE (JN (y.out i b) (y.out (i+1) (by omega)));have aa:=t.size;have U:Hid ((I.take i).length<=1000000):=by unfold Hid;rw[Ki,HL.out];omega
   generalize I.take i=L at *;clear H G Q O k V y a b1 Z Y;go_wp2_with fail;refine M.out.mono ?_;rintro _ _ ⟨rfl,rfl⟩;go_wp2_with fail;refine P.out.mono ?_;rintro _ _ ⟨rfl,rfl⟩;go_wp2_with(at_builtin;refine qQ (o:=⟨some 36,_,_,_,_,_⟩) S rfl _ _ rfl w.heap.size _ L rfl (l.kp ((NQ wr).alloc _)) _ _ rfl (ON.lit1 wr 3 (g i)) U.out (by simp;omega) ?_;intro v4 w4 o4 g4;have k4:Kp w w4:=NS (t.alloc _) g4 l.own_ge)
   go_roundw
   case rel=>exact⟨i+1,by omega,rfl,by rw[J.out];exact o4,k4⟩
   case measure=>have:=T.out;simp[intOf];omega
  ·obtain rfl:i=K - j:=by omega
   have ab:((f (K - j):Nat):Int)=N - 1:=a.2 rfl;rw[V.out] at l;have R:=JE l.rn;obtain⟨av,nv,cv,rfl⟩:=l.rn.sl;have KK:=JE t;clear H G Q O k V y a b1 Z Y l t;go_wp2_with fail;go_ret2;exact⟨⟨_,rfl,R.out⟩,KK.out⟩
attribute [local go_sem] Oper.semAt_some
theorem Ho (a:Option Addr)(n c:Nat)(w:World):
  Calls prog 144 #[.slice a n c] w λe w'=>e=.returned (.func (.func 175) #[] #[.pointer (some ⟨w.heap.size,0,none⟩)])/\w.alloc (.cells #[.slice a n c] 34)=w':=by
 go_enter func144,ntmps144;go_wp2;go_ret;exact⟨rfl,rfl⟩
theorem Hp (s:List Nat)(N:Nat)(a:Option Addr)(c E C t:Nat)(w:World)(hN:N<=100000)(L:w.cell? ⟨E,0,none⟩=some (.slice a N c))
  (U:0<N->a=some ⟨C,t,none⟩/\∀ i,i<N->w.cell? ⟨C,t+i,none⟩=some (.int .i64 ((s.getD i 0:Nat):Int))):
  pT prog 175 #[.pointer (some ⟨E,0,none⟩)] (λi v _ _=>v=#[.int .i64 (((N - 1 - i:Nat)):Int),.int .i64 ((s.getD (N - 1 - i) 0:Nat):Int)]) N (λk=>k=E\/k=C) w:=by
 intro l J Jx W H af ae Z ag X h0;have D:=H.cell L (.inl rfl);have S:=JE L;have HJ:=JE Z;have HY:=JE X;have HC:=JE U;have HH:=JE H;have i0:IntKind.i64.wrap ((N:Int) - 1)=(N:Int) - 1:=JI _ (by omega);clear Z X L U H;refine(callsIn_wide (n:=5)).1 ?_;refine callsIn_of_wp func175 rfl trivial ?_ rfl;simp only[ntmps175,Lj,Lr,Lk,Ka,Kf,Nat.reduceAdd,Nat.reduceSub,Lg,Lh,Lq,La,Ll];gi_wp2
 gi_loopw [3] (λp wr=>∃ (i:Nat) (Y:Nat->Prop),i<=N/\p=.int .i64 ((N:Int) - 1 - (i:Int))/\aR (λk=>k=E\/k=C) w wr/\J i Y wr/\(∀ k,Y k->W.heap.size<=k/\k<wr.heap.size)/\W.heap.size<=wr.heap.size) (λp _=>(intOf p+1).toNat)
 case atStart=>exact⟨0,_,by omega,by simp,HH.out,h0,λ_ h=>h.elim,JO _⟩
 case round=>
  clear D h0;obtain⟨i,Y,hi,rfl,b,j,g,m⟩:=hrel;have ab:prog.follows .mixedOrders=true:=by kernel_rfl
  have ad:prog.follows .lateStores=true:=by kernel_rfl
  have D:=b.cell S.out (.inl rfl);by_cases o:i<N
  ·obtain⟨M,K⟩:∃ M,N - 1 - i=M:=⟨_,rfl⟩
   have q:(N:Int) - 1 - (i:Int)=(M:Int):=by omega
   obtain⟨rfl,z⟩:=HC.out (by omega);have c2:=b.cell (z M (by omega)) (.inr rfl);have i2:(M:Int)<(N:Int):=by omega
   have i1:IntKind.i64.wrap ((M:Int) - 1)=(M:Int) - 1:=JI _ (by omega);have A:(#[.int .i64 (M:Int),.int .i64 ((s.getD M 0:Nat):Int)]:Array Value)=#[.int .i64 (((N - 1 - i:Nat)):Int),.int .i64 ((s.getD (N - 1 - i) 0:Nat):Int)]:=by rw[K]
   obtain⟨fn,tmps,F,aa,T,I⟩:=HY.out i Y wr #[.int .i64 (M:Int),.int .i64 ((s.getD M 0:Nat):Int)] 4 o j g b A;have G:=JE (JN K (JN o q));have f:=JE (JN g (JN b m));rw[q];generalize ((s.getD M 0:Nat):Int)=V at *;clear z A K q g b m j o hi;gi_wp2
   refine I.mono ?_;rintro e w2 ⟨d,(⟨rfl,y⟩|⟨rfl,u⟩)⟩
   ·have R:=JE (f.out.2.1.trans (d.mono (λ_ h=>.inr h)))
    have r:Hid (∀ k,Y k->W.heap.size<=k/\k<w2.heap.size):=λk h=>⟨(f.out.1 k h).1,JV (f.out.1 k h).2 d.size⟩
    have P:=JE (Kd f.out.2.2 d.size);have Q:=JE y;clear T I d y D c2;gi_wp2
    go_roundw
    case rel=>exact⟨i+1,Y,G.out.2.1,by have:=G.out;congr 1 <;> omega,R.out,Q.out,r.out,P.out⟩
    case measure=>have:=G.out;simp[intOf] <;> omega
   ·have r:Hid (∀ k,Y k->W.heap.size<=k/\k<w2.heap.size):=λk h=>⟨(f.out.1 k h).1,JV (f.out.1 k h).2 d.size⟩
    have O:=JE u;clear T I d u D c2;gi_wp2
    refine bodyPost_ret (results_none rfl _ _ _) rfl ?_;exact⟨⟨_,rfl⟩,Y,r.out,.inr ⟨i,G.out.2.1,O.out⟩⟩
  ·obtain rfl:i=N:=by omega
   have x:¬(0:Int)<=(i:Int) - 1 - (i:Int):=by omega
   have e:(i:Int) - 1 - (i:Int) = -1:=by omega
   have B:=JE (JN g j);rw[e];clear g j b m x e;gi_wp2
   refine bodyPost_end (results_none rfl _ _ _) rfl ?_;exact⟨⟨_,rfl⟩,Y,B.out.1,.inl B.out.2⟩

import Derived.Test.YthmhklmkgkfcpaaGreatDoorX10
set_option linter.all false
set_option maxHeartbeats 8000000
set_option maxRecDepth 100000
namespace Go.Proofs.YthmhklmkgkfcpaaGreatDoor
open Go.Proofs.Tryz Go.RowKit
variable {K a i j k q x:Nat}{b:List UInt8}{l:List Int}{n:Nod}{t:List Nod}{w:World}
theorem qW (h:K<=10):(2 ^ K).log2=K:=by
 have:=tJ K h;unfold lgN at this;rwa [JX] at this
theorem aD.lg (h:aD t K):lgT t=K:=by
 unfold lgT;rw[h.lv,qW h.le]
theorem ki:x∈aL K 0 i↔∃ j,1<=j/\j<=K/\x=nd j (i / 2 ^ j):=by
 unfold aL;rw[KN];constructor
 ·rintro⟨k,a,rfl⟩
  rw[List.mem_range] at a;exact⟨k+1,by omega,by omega,by rw[show 0+1+k=k+1 by omega]⟩
 ·rintro⟨j,c,b,rfl⟩
  exact⟨j - 1,by rw[List.mem_range];omega,by rw[show 0+1+(j - 1)=j by omega,show j - 1+1=j by omega]⟩
theorem ik (h:x∈aL K 0 i):x % 2=1:=by
 obtain⟨j,a,_,rfl⟩:=ki.1 h;obtain⟨j,rfl⟩:=Nat.exists_eq_add_of_le' a;exact jz _ _
theorem eP (a:i<2 ^ K)(h:x∈aL K 0 i):x<2 ^ (K+1) - 1:=by
 obtain⟨j,c,b,rfl⟩:=ki.1 h;refine fU b ?_;have:=ke (K:=K) (j:=0) (q:=i) (i:=j) (by simpa using a) (by omega);rwa [show K - (0+j)=K - j by omega] at this
theorem qX (K i:Nat):(aL K 0 i).Nodup:=by
 unfold aL;refine List.Pairwise.map _ ?_ (List.nodup_range (n:=K - 0));intro a b d c;have:=(jd c).1;omega
theorem uk (l:List Nat):∀ t:List Nod,(l.foldl (λo x=>o.set x aX) t).length=t.length:=by
 induction l with
 | nil=>intro t;rfl
 | cons a l ih=>intro t;rw[NC,ih,Km]
theorem As (l:List Nat):∀ (t:List Nod) (x:Nat),(∀ y∈l,y<t.length)->ats (l.foldl (λo x=>o.set x aX) t) x=if x∈l then aX else ats t x:=by
 induction l with
 | nil=>intro t x _;simp
 | cons a l ih=>
  intro t x h
  rw[NC,ih (t.set a aX) x (λy b=>by rw[Km];exact h y (Nb _ b)),fm t a aX x (h a MO)]
  by_cases e:x=a
  ·subst e;simp
  ·simp[e]
theorem qY (l:List Nat)(i:Nat):∀ t:List Nod,(l.foldl (λo x=>da o i x) t).length=t.length:=by
 induction l with
 | nil=>intro t;rfl
 | cons a l ih=>
  intro t
  rw[NC,ih]
  unfold da
  split
  ·rw[Km]
  ·rfl
theorem At (t:List Nod)(i a x:Nat)(h:a<t.length):ats (da t i a) x=if x=a/\(ats t a).kind=2 then ic (ats t a) i else ats t x:=by
 unfold da;by_cases b:(ats t a).kind=2
 ·rw[if_pos b,fm t a _ x h]
  by_cases e:x=a
  ·rw[if_pos e,if_pos ⟨e,b⟩]
  ·rw[if_neg e,if_neg (λh=>e h.1)]
 ·rw[if_neg b,if_neg (λh=>b h.2)]
theorem ul (l:List Nat)(i:Nat):∀ (t:List Nod) (x:Nat),l.Nodup->(∀ y∈l,y<t.length) ->
  ats (l.foldl (λo x=>da o i x) t) x=if x∈l/\(ats t x).kind=2 then ic (ats t x) i else ats t x:=by
 induction l with
 | nil=>intro t x _ _;simp
 | cons a l ih=>
  intro t x f h
  have k:=h a MO
  rw[Nl] at f
  have c:(da t i a).length=t.length:=by
   have:=qY [a] i t
   simpa using this
  rw[NC,ih (da t i a) x f.2 (λy j=>by rw[c];exact h y (Nb _ j)),At t i a x k]
  by_cases e:x=a
  ·subst e
   have g:¬(x∈l/\(if x=x/\(ats t x).kind=2 then ic (ats t x) i else ats t x).kind=2):=λh=>f.1 h.1
   rw[if_neg g]
   by_cases d:(ats t x).kind=2
   ·rw[if_pos ⟨rfl,d⟩,if_pos ⟨MO,d⟩]
   ·rw[if_neg (λh=>d h.2),if_neg (λh=>d h.2)]
  ·have g:(if x=a/\(ats t a).kind=2 then ic (ats t a) i else ats t x)=ats t x:=if_neg (λh=>e h.1)
   rw[g]
   by_cases b:x∈l/\(ats t x).kind=2
   ·rw[if_pos b,if_pos ⟨Nb _ b.1,b.2⟩]
   ·rw[if_neg b,if_neg (λh=>b ⟨(Lu.1 h.1).resolve_left e,h.2⟩)]
theorem qZ (t:List Nod):dH t<=lvs t:=ug _ _
theorem Au (h:dH t<lvs t):(ats t (2*dH t)).kind=0:=by
 have:=qS h;exact Ly this
theorem Av (b:i<=lvs t)(d:i<lvs t->(ats t (2*i)).kind=0)(c:∀ k,k<i->(ats t (2*k)).kind≠0):dH t=i:=
 uh b (λh=>Ke (d h)) (λk a=>Kb (c k a))
def wK (t:List Nod)(K:Nat):Nat:=if dH t=lvs t then K+1 else K
theorem aD.wide (h:aD t K):(aP t).length=2 ^ (wK t K+1) - 1/\lvs (aP t)=2 ^ wK t K/\dH t<2 ^ wK t K/\(∀ x,ats (aP t) x=ats t x)/\K<=wK t K:=by
 have g:=h.len2;have c:=h.lv;have f:=bE K;have e:=bi K;have b:=qZ t;unfold aP wK;unfold lvs at c b ⊢;by_cases a:dH t=(t.length+1) / 2
 ·rw[if_pos a,if_pos a]
  have d:=bi (K+1);refine⟨?_,?_,?_,λx=>Am _ _ _,by omega⟩
  ·rw[JQ,Lb];omega
  ·rw[JQ,Lb];omega
  ·omega
 ·rw[if_neg a,if_neg a]
  exact⟨by omega,by omega,by omega,λx=>rfl,by omega⟩
theorem aD.gap1024 (h:aD t K)(a:dH t≠1024):wK t K<=10:=by
 unfold wK;have c:=h.le;have d:=h.lv;split
 ·next e=>
  rcases Kh c with b|b
  ·omega
  ·subst b
   rw[e,d] at a;exact absurd rfl a
 ·exact c
theorem aD.blankLen (i:Nat):(ig t i).length=t.length:=uk _ _
theorem aD.blankAt (h:aD t K)(b:i<2 ^ K)(x:Nat):ats (ig t i) x=if x∈aL K 0 i then aX else ats t x:=by
 unfold ig pathT;rw[h.lg];exact As _ _ x (λy a=>by rw[h.len];exact eP b a)
theorem aD.goneAt (h:aD t K)(b:i<2 ^ K)(x:Nat):ats (ui t i) x=if x=2*i\/x∈aL K 0 i then aX else ats t x:=by
 have c:=h.len2;unfold ui;rw[fm _ _ _ x (by rw[aD.blankLen,c];omega),h.blankAt b x];by_cases e:x=2*i
 ·rw[if_pos e,if_pos (.inl e)]
 ·rw[if_neg e]
  by_cases a:x∈aL K 0 i
  ·rw[if_pos a,if_pos (.inr a)]
  ·rw[if_neg a,if_neg (λh=>h.elim e a)]
theorem aD.updAt (h:aD t K)(a:i<2 ^ K)(pub:List UInt8)(x:Nat):
  ats (bk t i pub) x=if x=2*i then aN (ats t (2*i)).name pub else if x∈aL K 0 i then aX else ats t x:=by
 have b:=h.len2;unfold bk;rw[fm _ _ _ x (by rw[aD.blankLen,b];omega),h.blankAt a x]
theorem aD.updLen (i:Nat)(pub:List UInt8):(bk t i pub).length=t.length:=by
 unfold bk;rw[Km,aD.blankLen]
theorem aD.lt_of {t:List Nod}{x:Nat}(h:(ats t x).kind≠0):x<t.length:=by
 refine Nat.lt_of_not_le λa=>h ?_
 rw[jB a];rfl
def Oe:=@aD.lt_of
theorem Aw {u:List Nod}(h:okP t x)(d:ats u x=ats t x)(j:∀ k:Nat,(k:Int)∈(ats t x).un->(ats t (2*k)).kind=1->(ats u (2*k)).kind=1)(g:0<=loV x):okP u x:=by
 rcases h with b|⟨b,n,m,l,a⟩
 ·exact .inl (by rw[d,b])
 ·refine .inr ?_
  rw[d];refine⟨b,n,m,l,λe=>⟨(a e).1,(a e).2.1,λi c=>?_⟩⟩;obtain⟨p,o,f⟩:=(a e).2.2 i c;obtain⟨k,rfl⟩:=Kc (show 0<=i by omega);rw[JX] at f ⊢;exact⟨p,o,j k c f⟩
theorem Ay (x:Int):0<=loV x:=by
 unfold loV;split
 ·omega
 ·omega
theorem Az {n:Int}(h:k<gH l n)(a:k<l.length):l[k]<=n:=by
 have:=List.not_of_lt_findIdx (p:=λx=>decide (n<x)) (xs:=l) h;have:=of_decide_eq_false (by simpa using this:decide (n<l[k])=false);omega
theorem AA {n:Int}(h:gH l n<l.length):n<l[gH l n]:=by
 have:=List.findIdx_getElem (p:=λx=>decide (n<x)) (xs:=l) (w:=h);exact Ly this
theorem AB (l:List Int)(n:Int):gH l n<=l.length:=Np
theorem AC {name:Int}(h:∀ k,k<lvs t->¬((ats t (2*k)).kind=1/\(ats t (2*k)).name=name)):ib t name=false:=by
 refine Kb λa=>?_
 have:=qS a;exact h _ a (Ly this)
theorem aD.upd (h:aD t K)(a:(ats t (2*i)).kind=1){pub:List UInt8}(r:pub.length=32):aD (bk t i pub) K:=by
 have v:i<2 ^ K:=by
  have d:=Oe (t:=t) (x:=2*i) (by rw[a];decide);have n:=h.len2;omega
 have c:=h.updAt v pub;have m:=aD.updLen (t:=t) i pub;have l:eh (ats t (2*i)).name pub:=by
  rcases h.even i with e|⟨_,_,e,_⟩
  ·rw[e] at a;cases a
  ·exact⟨e.1,e.2.1,r⟩
 refine⟨h.le,by rw[m,h.len],λx w=>?_,λx y j q g f=>?_,⟨2*i,by rw[m];exact Oe (by rw[a];decide),by rw[c,if_pos rfl];rfl⟩⟩
 ·by_cases b:x=2*i
  ·refine .inr ?_
   rw[c,if_pos b];exact⟨by rw[b];show(1:Int)=_;omega,l,.inl rfl,λ_=>rfl,λn=>absurd n (show ¬(1:Int)=2 by decide)⟩
  ·by_cases p:x∈aL K 0 i
   ·exact .inl (by rw[c,if_neg b,if_pos p])
   ·refine Aw (h.okA x) (by rw[c,if_neg b,if_neg p]) (λk u a=>?_) (Ay _)
    rw[c];by_cases o:2*k=2*i
    ·rw[if_pos o];rfl
    ·rw[if_neg o,if_neg (λs=>by have:=ik s;omega)]
     exact a
 ·have a:∀ z,(ats (bk t i pub) z).kind=1->(ats t z).kind=1/\(ats (bk t i pub) z).name=(ats t z).name:=λz d=>by
   rw[c] at d ⊢;by_cases b:z=2*i
   ·rw[if_pos b,b]
    exact⟨a,rfl⟩
   ·rw[if_neg b] at d ⊢
    split at d
    ·cases d
    ·next e=>rw[if_neg e];exact⟨d,rfl⟩
  rw[(a x g).2,(a y f).2];exact h.one x y j (by rw[<-m];exact q) (a x g).1 (a y f).1
theorem AD (h:aD t K):∀ (j q:Nat),j<=K->q<2 ^ (K - j)->∀ l∈bt t j q,∃ y:Nat,l=(y:Int)/\y<t.length/\(ats t y).kind≠0:=by
 have b:∀ (j q:Nat),j<=K->q<2 ^ (K - j)->(ats t (nd j q)).kind≠0->∀ l∈(((nd j q:Nat):Int) :: (ats t (nd j q)).un.map (2*·)),∃ y:Nat,l=(y:Int)/\y<t.length/\(ats t y).kind≠0:=by
  intro j q f d c l a
  obtain⟨_,m,i⟩:=ec h.le f d
  rcases Lu.1 a with rfl|a
  ·exact⟨_,rfl,Oe c,c⟩
  ·obtain⟨u,n,rfl⟩:=KN.1 a
   obtain⟨k,rfl,_,g⟩:=h.unAt m i u n
   exact⟨2*k,by omega,Oe (by rw[g];decide),by rw[g];decide⟩
 intro j
 induction j with
 | zero=>
  intro q f d l a
  unfold bt at a
  by_cases c:(ats t (nd 0 q)).kind=0
  ·rw[if_pos c] at a;simp at a
  ·rw[if_neg c] at a
   exact b 0 q f d c l a
 | succ j ih=>
  intro q f d l a
  unfold bt at a
  by_cases c:(ats t (nd (j+1) q)).kind=0
  ·rw[if_pos c] at a
   have e:K - j=(K - (j+1))+1:=by omega
   have o:=bi (K - (j+1))
   rcases Le.1 a with a|a
   ·exact ih (2*q) (by omega) (by rw[e];omega) l a
   ·exact ih (2*q+1) (by omega) (by rw[e];omega) l a
  ·rw[if_neg c] at a
   exact b (j+1) q f d c l a
theorem oR (h:aD t K)(b:j<=K)(a:q<2 ^ (K - j)):ii t ((nd j q:Nat):Int)=bt t j q:=by
 have d:=fU b a;have c:=h.le;unfold ii;rw[if_pos ⟨by omega,by rw[h.len];omega⟩,JX,fV j q (by omega),kf j q (by omega)]
def unB (l:List Int):List UInt8:=l.flatMap λi=>be 2 i.toNat
def cR (n:Nod):List UInt8:=
 if n.kind=1 then [1]++be 2 n.name.toNat++aO n.pub++aO n.hash
 else if n.kind=2 then [2]++aO n.pub++aO n.hash++aO (unB n.un)
 else [0]
structure el (n:Nod):Prop where
 kind:n.kind=0\/n.kind=1\/n.kind=2
 name:0<=n.name/\n.name<=65535
 pub:n.pub.length<=40
 hash:n.hash.length<=40
 unl:n.un.length<=100
 un:∀ i∈n.un,0<=i/\i<=1023
theorem mV (l:List Int):(unB l).length=2*l.length:=by
 unfold unB
 induction l with
 | nil=>rfl
 | cons a l ih=>rw[List.flatMap_cons,JQ,ih,bq,Ka];omega
theorem uM (l:List Int)(i:Int):unB (l++[i])=unB l++be 2 i.toNat:=by
 unfold unB;rw[List.flatMap_append];simp
theorem fo {x:List UInt8}(h:x.length<=1000):(aO x).length<=x.length+2:=by
 rw[lq (by omega),AF];split
 ·omega
 ·rw[if_pos (by omega)];omega
theorem ko (h:el n):(cR n).length<=300/\1<=(cR n).length:=by
 have f:=fo (x:=n.pub) (by have:=h.pub;omega);have e:=fo (x:=n.hash) (by have:=h.hash;omega);have a:=fo (x:=unB n.un) (by rw[mV];have:=h.unl;omega);have d:=h.pub;have c:=h.hash;have b:=h.unl;rw[mV] at a;unfold cR;split
 ·simp only[JQ,bq,Ka,Kf];omega
 ·split
  ·simp only[JQ,Ka,Kf];omega
  ·simp
def ff (n:Nod)(g:List Int):Nod:=⟨n.kind,n.name,n.pub,n.un.filter λi=>decide (i∉g),n.hash⟩
theorem el.less (h:el n)(g:List Int):el (ff n g):=
 ⟨h.kind,h.name,h.pub,h.hash,Kd (MB _ _) h.unl,λi a=>h.un i (Nn.1 a).1⟩
theorem el.blank:el aX:=⟨.inl rfl,by decide,by decide,by decide,by decide,λi a=>by cases a⟩
def bW (t:List Nod)(g:List Int):Nat->Nat->List UInt8
 | 0,q=>bJ ([1]++be 2 q++cR (if (q:Int)∈g then aX else ats t (nd 0 q)))
 | j+1,q=>bJ ([2]++cR (ff (ats t (nd (j+1) q)) g)++aO (bW t g j (2*q))++aO (bW t g j (2*q+1)))
theorem uN (l:List UInt8):(bJ l).length=32:=by
 unfold bJ;exact uL _
theorem lD (t:List Nod)(g:List Int)(j q:Nat):(bW t g j q).length=32:=by
 cases j <;> exact uN _
structure bl (t:List Nod)(K:Nat):Prop where
 le:K<=10
 len:t.length=2 ^ (K+1) - 1
 node:∀ x,el (ats t x)
 par:∀ x,(ats t x).kind=2->x % 2=1
def gL (t:List Nod)(x side:Int):Int:=
 if 0<=x/\x<t.length/\0<=side/\side<=1 then (if (ats t x.toNat).kind=2 then 0 else 11) else 1
def ep (side:Int)(q:Nat):Nat:=if side=0 then 2*q+1 else 2*q
def pc (t:List Nod)(x:Nat)(side:Int):List UInt8:=
 bJ ([3]++aO (ats t x).pub++aO (ats t x).hash++aO (bW t (ats t x).un (lev x - 1) (ep side (qOf x))))
def er (t:List Nod)(x side:Int):List UInt8:=if gL t x side=0 then pc t x.toNat side else []
def dm (n:Nod)(h:List UInt8):Nod:=⟨n.kind,n.name,n.pub,n.un,h⟩
def dL (i:Nat)(s:List Nod × List UInt8)(x:Nat):List Nod × List UInt8:=
 if (ats s.1 x).kind=2 then
  (s.1.set x (dm (ats s.1 x) s.2),er (s.1.set x (dm (ats s.1 x) s.2)) (x:Int) (if x<2*i then 1 else 0))
 else s
def fh (t:List Nod)(i:Nat):List Nod × List UInt8:=(pathT t i).reverse.foldl (dL i) (t,[])
def iO (t:List Nod)(i:Int):Int:=if bc t i then 0 else 11
def gM (t:List Nod)(i:Int):List Nod:=
 if bc t i then (fh t i.toNat).1.set (2*i.toNat) (dm (ats (fh t i.toNat).1 (2*i.toNat)) (fh t i.toNat).2) else t
theorem aD.tidy (h:aD t K)(m:ij t 40):bl t K:=by
 have s:∀ x,(ats t x).kind=2->x % 2=1:=λx a=>by
  rcases h.okA x with c|⟨c,_⟩
  ·rw[c] at a;cases a
  ·omega
 refine⟨h.le,h.len,λx=>?_,s⟩;by_cases a:x<t.length
 ·rcases h.okA x with c|⟨c,⟨y,w,F⟩,E,D,C⟩
  ·rw[c];exact el.blank
  ·have o:ats t x∈t:=by rw[kg a];exact Ko a
   obtain⟨l,g,z⟩:=m.2 _ o;refine⟨by omega,⟨y,w⟩,l,g,by omega,λi v=>?_⟩;obtain⟨j,q,rfl,u,n⟩:=iE K x (by rw[<-h.len];exact a);obtain⟨_,f,e⟩:=ec h.le u n;obtain⟨k,rfl,p,b⟩:=h.unAt f e i v;have r:2*k<t.length:=by
    refine Nat.lt_of_not_le λd=>?_
    rw[jB d] at b;cases b
   have B:=h.len2;have A:=bP h.le;omega
 ·rw[jB (by omega)];exact el.blank
theorem el.hashed (h:el n)(a:b.length<=40):el (dm n b):=⟨h.kind,h.name,h.pub,a,h.unl,h.un⟩
theorem bl.hashed (h:bl t K)(x:Nat)(d:b.length<=40)(c:x<t.length):bl (t.set x (dm (ats t x) b)) K:=by
 refine⟨h.le,by rw[Km];exact h.len,λy=>?_,λy a=>?_⟩
 ·rw[fm _ _ _ _ c]
  split
  ·exact(h.node x).hashed d
  ·exact h.node y
 ·rw[fm _ _ _ _ c] at a
  split at a
  ·next e=>subst e;exact h.par _ a
  ·exact h.par y a
theorem wu {aa:List Nod}(c:∀ i,(ats aa i).kind=(ats t i).kind){a b:Int}(h:unP t a b l):unP aa a b l:=
 ⟨h.1,λi d=>by rw[c];exact h.2 i d⟩
theorem aD.hashed (h:aD t K)(x:Nat)(s:b.length=0\/b.length=32)(i:x<t.length)(d:(ats t x).kind≠0):aD (t.set x (dm (ats t x) b)) K:=by
 have k:=fm t x (dm (ats t x) b);have j:∀ y,(ats (t.set x (dm (ats t x) b)) y).kind=(ats t y).kind:=λy=>by
  rw[k y i];split
  ·next e=>subst e;rfl
  ·rfl
 have p:∀ y,(ats (t.set x (dm (ats t x) b)) y).name=(ats t y).name:=λy=>by
  rw[k y i];split
  ·next e=>subst e;rfl
  ·rfl
 refine⟨h.le,by rw[Km];exact h.len,λy m=>?_,λy z l o a c=>?_,?_⟩
 ·rw[Km] at m
  by_cases e:y=x
  ·subst e
   rcases h.okA y with a|⟨a,c,q,n,f⟩
   ·rw[a] at d;exact absurd rfl d
   ·refine .inr ?_
    rw[k y i,if_pos rfl];exact⟨a,c,s,n,λg=>⟨(f g).1,wu j (f g).2⟩⟩
  ·have g:ats (t.set x (dm (ats t x) b)) y=ats t y:=by rw[k y i,if_neg e]
   rcases h.okA y with a|⟨a,c,q,n,f⟩
   ·exact .inl (g.trans a)
   ·refine .inr ?_
    rw[g];exact⟨a,c,q,n,λr=>⟨(f r).1,wu j (f r).2⟩⟩
 ·rw[j] at a c
  rw[p,p];rw[Km] at o;exact h.one y z l o a c
 ·obtain⟨y,m,a⟩:=h.used
  exact⟨y,by rw[Km];exact m,by rw[j];exact a⟩
theorem De (t:List Nod)(x a:Int):(er t x a).length=0\/(er t x a).length=32:=by
 unfold er;split
 ·exact .inr (uN _)
 ·exact .inl rfl
theorem Df {s:List Nod × List UInt8}(e:x<t.length)(c:bl s.1 K)(b:s.1.length=t.length)(a:s.2.length=0\/s.2.length=32):
  bl (dL i s x).1 K/\(dL i s x).1.length=t.length/\((dL i s x).2.length=0\/(dL i s x).2.length=32)/\(aD s.1 K->aD (dL i s x).1 K):=by
 unfold dL;split
 ·next hk=>
  refine⟨c.hashed x (by omega) (by omega),by rw[Km];exact b,De _ _ _,λd=>d.hashed x a (by omega) (by rw[hk];decide)⟩
 ·exact⟨c,b,a,λh=>h⟩
theorem rY {t:List Nod}{K i:Nat}:∀ (l:List Nat) (s:List Nod × List UInt8),(∀ x∈l,x<t.length)->bl s.1 K->s.1.length=t.length->(s.2.length=0\/s.2.length=32) ->
  bl (l.foldl (dL i) s).1 K/\(l.foldl (dL i) s).1.length=t.length/\((l.foldl (dL i) s).2.length=0\/(l.foldl (dL i) s).2.length=32)/\(aD s.1 K->aD (l.foldl (dL i) s).1 K)
 | [],s,_,h1,h2,h3=>⟨h1,h2,h3,λh=>h⟩
 | x :: l,s,hl,h1,h2,h3=>by
  obtain⟨g1,g2,g3,g4⟩:=Df (i:=i) (hl x (by simp)) h1 h2 h3
  obtain⟨f1,f2,f3,f4⟩:=rY (i:=i) l (dL i s x) (λy hy=>hl y (by simp[hy])) g1 g2 g3
  exact⟨f1,f2,f3,λh=>f4 (g4 h)⟩
theorem wx (c:j<=10)(d:i<=j)(a:q<2 ^ (10 - j)):2 ^ (j - i)*q+2 ^ (j - i) - 1<2 ^ (10 - i):=by
 have e:2 ^ (10 - i)=2 ^ (j - i)*2 ^ (10 - j):=by rw[<-Nat.pow_add];congr 1;omega
 have b:2 ^ (j - i)*(q+1)<=2 ^ (10 - i):=by rw[e];exact Nat.mul_le_mul_left _ a
 rw[Nat.mul_add,NB] at b;have:=bE (j - i);omega
theorem down (k:j<=10)(h:q<2 ^ (10 - j))(f g:Nat->Nat)(m:f=λi=>nd i (2 ^ (j - i)*q))(l:g=λi=>nd i (2 ^ (j - i)*q+2 ^ (j - i) - 1)):
  (∀ i,i<=j->eO ((f i:Nat):Int)=(i:Int)/\lev (f i)=i/\eO ((g i:Nat):Int)=(i:Int)/\lev (g i)=i) /\
  (∀ i,i+1<=j->chE ((f (i+1):Nat):Int)=0/\fc ((f (i+1):Nat):Int)=((f i:Nat):Int)/\chE ((g (i+1):Nat):Int)=0/\fl ((g (i+1):Nat):Int)=((g i:Nat):Int)) /\
  f j=nd j q/\g j=nd j q/\((f 0:Nat):Int).tdiv 2=((2 ^ j*q:Nat):Int)/\((g 0:Nat):Int).tdiv 2=((2 ^ j*q+2 ^ j - 1:Nat):Int):=by
 subst m l;have d:∀ i,i<=j->2 ^ (j - i)*q<2 ^ (10 - i)/\2 ^ (j - i)*q+2 ^ (j - i) - 1<2 ^ (10 - i):=λi a=>by
  have c:=wx k a h;have b:=bE (j - i);omega
 refine⟨λi a=>?_,λi a=>?_,?_,?_,?_,?_⟩
 ·obtain⟨c,b⟩:=d i a
  exact⟨fw (by omega) c,fV _ _ (by omega),fw (by omega) b,fV _ _ (by omega)⟩
 ·obtain⟨c,b⟩:=d (i+1) a
  obtain⟨o,n,_⟩:=fK (j:=i) (q:=2 ^ (j - (i+1))*q) (by omega) c;obtain⟨r,_,p⟩:=fK (j:=i) (q:=2 ^ (j - (i+1))*q+2 ^ (j - (i+1)) - 1) (by omega) b;have e:j - i=(j - (i+1))+1:=by omega
  have s:=bE (j - (i+1));refine⟨o,?_,r,?_⟩
  ·rw[n]
   simp only[];rw[e,bi,My]
  ·rw[p]
   simp only[];rw[e,bi,My];congr 2
   omega
 ·simp
 ·simp
 ·simp only[NH]
  rw[eF,Kx (by omega)];omega
 ·simp only[NH]
  rw[eF,Kx (by omega)];omega
theorem Dl (j q:Nat)(w:World)(A:j<=10)(z:q<2 ^ (10 - j)):
  Calls prog 79 #[.int .i64 ((nd j q:Nat):Int)] w λe w'=>e=.returned (.tuple #[.int .i64 ((2 ^ j*q:Nat):Int),.int .i64 ((2 ^ j*q+2 ^ j - 1:Nat):Int)])/\w=w':=by
 obtain⟨R,Q⟩:=(eN ((nd j q:Nat):Int)).2 ⟨j,q,rfl,A,z⟩;obtain⟨f,C⟩:∃ f:Nat->Nat,f=λi=>nd i (2 ^ (j - i)*q):=⟨_,rfl⟩
 obtain⟨g,B⟩:∃ g:Nat->Nat,g=λi=>nd i (2 ^ (j - i)*q+2 ^ (j - i) - 1):=⟨_,rfl⟩
 obtain⟨J,H,G,F,E,D⟩:=down A z f g C B;have M:2 ^ j*q+2 ^ j - 1<2 ^ (10 - 0):=by have:=wx A (JW j) z;simpa using this
 have m:=JE J;have y:=JE H;have k:Hid (∀ x,Calls prog 82 #[.int .i64 x] w λe w'=>e=.returned (.int .i64 (eO x))/\w=w'):=λx=>qM x w
 have p:Hid (∀ x,Calls prog 34 #[.int .i64 x] w λe w'=>e=.returned (.tuple #[.int .i64 (fc x),.int .i64 (chE x)])/\w=w'):=λx=>lO x w
 have l:Hid (∀ x,Calls prog 35 #[.int .i64 x] w λe w'=>e=.returned (.tuple #[.int .i64 (fl x),.int .i64 (chE x)])/\w=w'):=λx=>lP x w
 have L:IntKind.i64.wrap ((2 ^ j*q:Nat):Int)=((2 ^ j*q:Nat):Int):=JI _ (by have:=bE j;omega);have N:IntKind.i64.wrap ((2 ^ j*q+2 ^ j - 1:Nat):Int)=((2 ^ j*q+2 ^ j - 1:Nat):Int):=JI _ (by omega);have u:=JE (JN E D);have v:=JE (JN G F);generalize ((2 ^ j*q:Nat):Int)=S at *;generalize ((2 ^ j*q+2 ^ j - 1:Nat):Int)=T at *;generalize nd j q=X at *;clear J H G F E D C B M z;go_enter func79,ntmps79;go_wp2_with fail;go_loop [4] (λa=>∃ i:Nat,i<=j/\a=.int .i64 ((f i:Nat):Int)) (λa=>lev (intOf a).toNat)
 case atStart=>exact⟨j,JO _,by rw[v.out.1]⟩
 case round=>
  obtain⟨i,n,rfl⟩:=hrel;have c:=k.out ((f i:Nat):Int);rw[(m.out i n).1] at c;have h:=JE c;clear c;cases i with
  | succ i=>
   obtain⟨t,s,_,_⟩:=y.out i n;have d:=p.out ((f (i+1):Nat):Int);rw[t,s] at d;have r:=JE d;have o:=JE (JN (m.out (i+1) n).2.1 (m.out i (by omega)).2.1);have K:0<((i+1:Nat):Int):=by omega
   generalize ((i+1:Nat):Int)=I at *;clear d t s m y k p l u v;go_wp2_with fail;refine h.out.mono ?_;rintro _ _ ⟨rfl,rfl⟩;go_wp2_with fail;refine r.out.mono ?_;rintro _ _ ⟨rfl,rfl⟩;go_wp2_with fail;go_round
   case rel=>exact⟨i,by omega,rfl⟩
   case measure=>have:=o.out;simp[intOf];omega
  | zero=>
   have P:=u.out.1;go_wp2_with fail;refine h.out.mono ?_;rintro _ _ ⟨rfl,rfl⟩;clear h n p;go_wp2_with fail;go_loop [5] (λb=>∃ i:Nat,i<=j/\b=.int .i64 ((g i:Nat):Int)) (λb=>lev (intOf b).toNat)
   case atStart=>exact⟨j,JO _,by rw[v.out.2]⟩
   case round=>
    obtain⟨i,n,rfl⟩:=hrel;have c:=k.out ((g i:Nat):Int);rw[(m.out i n).2.2.1] at c;have h:=JE c;clear c;cases i with
    | succ i=>
     obtain⟨_,_,t,s⟩:=y.out i n;have d:=l.out ((g (i+1):Nat):Int);rw[t,s] at d;have r:=JE d;have o:=JE (JN (m.out (i+1) n).2.2.2 (m.out i (by omega)).2.2.2);have K:0<((i+1:Nat):Int):=by omega
     generalize ((i+1:Nat):Int)=I at *;clear d t s m y k l u v;go_wp2_with fail;refine h.out.mono ?_;rintro _ _ ⟨rfl,rfl⟩;go_wp2_with fail;refine r.out.mono ?_;rintro _ _ ⟨rfl,rfl⟩;go_wp2_with fail;go_round
     case rel=>exact⟨i,by omega,rfl⟩
     case measure=>have:=o.out;simp[intOf];omega
    | zero=>
     have O:=u.out.2;clear y m k l v u;go_wp2_with fail;refine h.out.mono ?_;rintro _ _ ⟨rfl,rfl⟩;go_wp2_with fail;go_ret2;exact⟨rfl,rfl⟩
theorem wN (x:Int)(w:World):
  Calls prog 79 #[.int .i64 x] w λe w'=>e=.returned (.tuple #[.int .i64 (loV x),.int .i64 (hiV x)])/\w=w':=by
 by_cases h:okN x
 ·obtain⟨j,q,rfl,d,c⟩:=(eN x).1 h
  obtain⟨b,a⟩:=kY d c;rw[b,a];exact Dl j q w d c
 ·obtain⟨b,a⟩:=tP h
  rw[b,a];unfold okN at h;by_cases g:x<0
  ·clear h b a
   go_enter func79,ntmps79;go_wp2_with fail;go_ret2;exact⟨rfl,rfl⟩
  ·have f:2046<x:=by omega
   clear h b a;go_enter func79,ntmps79;go_wp2_with fail;go_ret2;exact⟨rfl,rfl⟩
def inL (l:List Nat)(n:Int):Bool:=l.any λx=>decide ((x:Int)=n)
theorem wO (u:Value)(l:List Nat)(n:Int)(w:World)(r:RN w u l):
  Calls prog 49 #[u,.int .i64 n] w λe w'=>e=.returned (.bool (inL l n))/\w=w':=by
 obtain⟨L,K,rfl,p1,C⟩:=r.shape;unfold maxLen at C;have c:Hid (∀ k,k<l.length->((l.getD k 0:Nat):Int)=n->inL l n=true):=λk o p=>by
  unfold inL;rw[Mv];rw[JF,JG o] at p;exact⟨l[k],Ko o,Ke p⟩
 have g:Hid ((∀ k,k<l.length->((l.getD k 0:Nat):Int)≠n)->inL l n=false):=λh=>by
  rw[LM];intro v;unfold inL at v;rw[Mv] at v;obtain⟨x,D,p⟩:=v;obtain⟨k,o,rfl⟩:=Ld D;refine h k o ?_;rw[JF,JG o];exact Ly p
 generalize inL l n=b at *;have B:=JE r;obtain⟨N,A⟩:∃ N,l.length=N:=⟨_,rfl⟩;rw[A] at B p1 c g ⊢;clear r A;go_enter func49,ntmps49;go_wp2_with fail;go_loop [5] (λi=>∃ k:Nat,k<=N/\i=.int .i64 (k:Int)/\(∀ t,t<k->((l.getD t 0:Nat):Int)≠n)) (λi=>(N - (intOf i).toNat))
 case atStart=>exact⟨0,JW _,rfl,λt h=>by omega⟩
 case round=>
  obtain⟨k,o,rfl,a⟩:=hrel;by_cases j:k<N
  ·obtain⟨J,G,rfl,_,q⟩:=B.out.at k j
   have I:=q k j;have m:=c.out k j;have d:Hid (((l.getD k 0:Nat):Int)≠n->∀ t,t<k+1->((l.getD t 0:Nat):Int)≠n):=λp t E=>by
    rcases Kh (Kr.1 E) with s|s
    ·exact a t s
    ·rw[s];exact p
   have H:IntKind.i64.wrap ((k:Int)+1)=(k:Int)+1:=JI _ (by omega);clear q c g a;generalize ((l.getD k 0:Nat):Int)=X at *;by_cases f:X=n
   ·have y:=JE (m f)
    subst f;clear m d;go_wp2_with fail;go_ret;exact⟨by rw[y.out] <;> rfl,rfl⟩
   ·have F:=JE (d.out f)
    have z:(X==n)=false:=JL.2 f;clear m d;go_wp2_with fail;go_round
    case rel=>exact⟨k+1,by omega,by go_num,F.out⟩
    case measure=>simp[intOf];omega
  ·obtain rfl:k=N:=by omega
   have y:=JE (g.out a);clear c g a;go_wp2_with fail;go_ret;exact⟨by rw[y.out] <;> rfl,rfl⟩
theorem rZ (h:t.length<=100000):IntKind.i64.wrap ((t.length:Int)+1)=(t.length:Int)+1/\((t.length:Int)+1).tdiv 2=((lvs t:Nat):Int):=by
 refine⟨JI _ (by omega),?_⟩;unfold lvs;rw[Kx (by omega)];omega
theorem lQ (h:k<lvs t):2*k<t.length:=by unfold lvs at h;omega
theorem iY (h:t.length<=100000):(lvs t:Int)<=100000:=by
 unfold lvs;omega
theorem gU (u:Value)(t:List Nod)(w:World)(d:NL w u t)(b:t.length<=100000):
  Calls prog 31 #[u] w λe w'=>e=.returned (.int .i64 ((lvs t:Nat):Int))/\w=w':=by
 obtain⟨a,c,rfl,j,i⟩:=d.shape;obtain⟨h,g⟩:=rZ (t:=t) b;have f:IntKind.i64.wrap ((lvs t:Nat):Int)=((lvs t:Nat):Int):=JI _ (by have:=iY (t:=t) b;omega);go_enter func31,ntmps31;go_wp2_with fail;go_ret;exact⟨rfl,rfl⟩
theorem si (name:Int)(v:Value)(pub:List UInt8)(w:World)(d:Rd w v pub):
  Calls prog 84 #[.int .i64 name,v] w λe w'=>e=.returned (.bool (decide (eh name pub)))/\w=w':=by
 obtain⟨a,c,rfl,k,l⟩:=d.shape;by_cases g:0<=name
 ·by_cases f:name<=65535
  ·by_cases b:pub.length=32
   ·have e:decide (eh name pub)=true:=Ke ⟨g,f,b⟩
    rw[e];rw[b] at k ⊢;clear e d b;go_enter func84,ntmps84;go_wp2_with fail;go_ret;exact⟨rfl,rfl⟩
   ·have e:decide (eh name pub)=false:=Kb λh=>b h.2.2
    have j:((pub.length:Int)==32)=false:=JL.2 (by omega);have i:¬(pub.length:Int)=32:=by omega
    rw[e];clear e d b;go_enter func84,ntmps84;go_wp2_with fail;go_ret;exact⟨rfl,rfl⟩
  ·have e:decide (eh name pub)=false:=Kb λh=>f h.2.1
   rw[e];clear e d;go_enter func84,ntmps84;go_wp2_with fail;go_ret;exact⟨rfl,rfl⟩
 ·have e:decide (eh name pub)=false:=Kb λh=>g h.1
  rw[e];clear e d;go_enter func84,ntmps84;go_wp2_with fail;go_ret;exact⟨rfl,rfl⟩
theorem Dm {name:Int}(d:k<lvs t)(h:(ats t (2*k)).kind=1)(c:(ats t (2*k)).name=name)(a:∀ j,j<k->¬((ats t (2*j)).kind=1/\(ats t (2*j)).name=name)):
  ll t name=(k:Int)/\ib t name=true:=by
 have e:qR t name=k:=uh (by omega) (λ_=>Ke ⟨h,c⟩) (λj f=>Kb (a j f));have b:ib t name=true:=by unfold ib;rw[e];exact Ke d
 exact⟨by unfold ll;rw[b,e];rfl,b⟩
theorem Dn {name:Int}(h:∀ j,j<lvs t->¬((ats t (2*j)).kind=1/\(ats t (2*j)).name=name)):ll t name=0/\ib t name=false:=by
 have e:=AC h;exact⟨by unfold ll;rw[e];rfl,e⟩
theorem Do (u:Value)(t:List Nod)(name:Int)(w:World)(A:NL w u t)(C:t.length<=100000):
  Calls prog 85 #[u,.int .i64 name] w λe w'=>e=.returned (.tuple #[.int .i64 (ll t name),.bool (ib t name)])/\w=w':=by
 have y:=JE (gU u t w A C);obtain⟨a,c,rfl,p1,T⟩:=A.shape;have P:=iY (t:=t) C;have M:=JE A;have E:=JE (λk I h o d=>Dm (t:=t) (name:=name) (k:=k) I h o d);have G:=JE (λh=>Dn (t:=t) (name:=name) h);have H:=JE (λk h=>lQ (t:=t) (k:=k) h);generalize ll t name=FV at *;generalize ib t name=FB at *;generalize lvs t=L at *;obtain⟨N,K⟩:∃ N,t.length=N:=⟨_,rfl⟩;rw[K] at M p1 H y C ⊢;clear A K;go_enter func85,ntmps85;go_wp2_with fail;go_loop [6] (λi=>∃ k:Nat,k<=L/\i=.int .i64 (k:Int)/\(∀ j,j<k->¬((ats t (2*j)).kind=1/\(ats t (2*j)).name=name))) (λi=>(L - (intOf i).toNat))
 case atStart=>exact⟨0,JW _,rfl,λt h=>by omega⟩
 case round=>
  obtain⟨k,I,rfl,d⟩:=hrel;by_cases r:k<L
  ·have m:=H.out k r
   obtain⟨b,O,rfl,S,J⟩:=M.out.at (2*k) m;obtain⟨p,q,h,o⟩:=J (2*k) m;have c1:=o.kind;have Z:=o.name;have g:=E.out k r;have f:Hid (¬((ats t (2*k)).kind=1/\(ats t (2*k)).name=name)->∀ j,j<k+1->¬((ats t (2*j)).kind=1/\(ats t (2*j)).name=name)):=λR j Q=>by
    rcases Kh (Kr.1 Q) with D|D
    ·exact d j D
    ·rw[D];exact R
   have l:=JE d;have W:IntKind.i64.wrap ((k:Int)+1)=(k:Int)+1:=JI _ (by omega);have V:IntKind.i64.wrap (2*(k:Int))=((2*k:Nat):Int):=by rw[JI _ (by omega)];omega
   have U:((2*k:Nat):Int)<(N:Int):=by omega
   clear J o G d E m S;generalize (ats t (2*k)).kind=X at *;generalize (ats t (2*k)).name=Y at *;generalize 2*k=K2 at *;by_cases s:X=1
   ·by_cases B:Y=name
    ·obtain⟨x,v⟩:=g s B l.out
     have z:=JE (JN x v);subst s;subst B;clear g f l x v;go_wp2_with fail;refine y.out.mono ?_;rintro _ _ ⟨rfl,rfl⟩;go_wp2_with fail;go_ret2;exact⟨by rw[z.out.1,z.out.2] <;> rfl,rfl⟩
    ·have F:=JE (f.out λh=>B h.2)
     have n:(Y==name)=false:=JL.2 B;subst s;clear g f l;go_wp2_with fail;refine y.out.mono ?_;rintro _ _ ⟨rfl,rfl⟩;go_wp2_with fail;go_round
     case rel=>exact⟨k+1,by omega,by go_num,F.out⟩
     case measure=>simp[intOf];omega
   ·have F:=JE (f.out λh=>s h.1)
    have n:(X==1)=false:=JL.2 s;clear g f l;go_wp2_with fail;refine y.out.mono ?_;rintro _ _ ⟨rfl,rfl⟩;go_wp2_with fail;go_round
    case rel=>exact⟨k+1,by omega,by go_num,F.out⟩
    case measure=>simp[intOf];omega
  ·obtain rfl:k=L:=by omega
   obtain⟨x,v⟩:=G.out d;have z:=JE (JN x v);clear G d E H x v;go_wp2_with fail;refine y.out.mono ?_;rintro _ _ ⟨rfl,rfl⟩;go_wp2_with fail;go_ret2;exact⟨by rw[z.out.1,z.out.2] <;> rfl,rfl⟩
theorem infoNode:(prog.info? 81).map (λi=>(i.zero,i.size,i.bytes))=some (some (.agg #[.int .i64 0,.int .i64 0,.slice none 0 0,.slice none 0 0,.slice none 0 0]),5,88):=by kernel_rfl
theorem pI:S5 prog 22 81:=S5.mk' underlying22 infoNode (by decide) rfl
def pJ (name:Int)(pub:List UInt8):Int:=if eh name pub then 0 else 1
def pK (name:Int)(pub:List UInt8):List Nod:=if eh name pub then [aN name pub] else []
theorem NL.lit1 (w:World)(e:TypeId)(n:Nod)(p u h:Value)(H:NIn w n p u h):NL (w.alloc (.cells #[.int .i64 n.kind,.int .i64 n.name,p,u,h] e)) (.slice (some ⟨w.heap.size,0,none⟩) 1 1) [n]:=by
 refine⟨_,1,rfl,JO _,by unfold maxLen;omega,λh=>(by cases h),λ_=>⟨w.heap.size,0,rfl,by simp,λi b=>?_⟩⟩;have:i=0:=by simpa using b
 subst this;refine⟨p,u,h,λj v a=>?_,H.kp ((NQ _).alloc _)⟩;rw[cell_of_row _ _ _ _ _ _ (heap_alloc_new w _)];simp only[Nat.zero_mul,Lf];exact(show(cj n p u h).toArray[j]?=some v by rw[JT];exact a)
theorem Dp (name:Int)(v:Value)(pub:List UInt8)(w:World)(d:Rd w v pub):
  Calls prog 37 #[.int .i64 name,v] w λe w'=>(∃ r,e=.returned (.tuple #[r,.int .i64 (pJ name pub)])/\NL w' r (pK name pub))/\Kp w w':=by
 have b:=JE (si name v pub w d);by_cases h:eh name pub
 ·rw[Ke h] at b
  rw[show pJ name pub=0 from if_pos h,show pK name pub=[aN name pub] from if_pos h];have f:=JE (NL.lit1 w 81 (aN name pub) v (.slice none 0 0) (.slice none 0 0) ⟨d,RI.nil w,bU w⟩);obtain⟨a,c,rfl,i,g⟩:=d.shape;go_enter func37,ntmps37;go_wp2_with fail;refine b.out.mono ?_;rintro _ _ ⟨rfl,rfl⟩;go_wp2_with fail;go_ret2;exact⟨⟨_,rfl,f.out⟩,(NQ _).alloc _⟩
 ·rw[Kb h] at b
  rw[show pJ name pub=1 from if_neg h,show pK name pub=[] from if_neg h];clear h;go_enter func37,ntmps37;go_wp2_with fail;refine b.out.mono ?_;rintro _ _ ⟨rfl,rfl⟩;go_wp2_with fail;go_ret2;exact⟨⟨_,rfl,NL.nil _⟩,NQ _⟩
theorem Dq (a:(ats t x).kind=0):okP t x↔(ats t x).name=0/\(ats t x).pub.length=0/\(ats t x).un.length=0/\(ats t x).hash.length=0:=by
 constructor
 ·intro h
  rw[An h a];exact⟨rfl,rfl,rfl,rfl⟩
 ·rintro⟨e,d,c,b⟩
  refine .inl ((Nod.eq_iff _ _).2 ⟨a,e,Kg d,Kg c,Kg b⟩)
theorem Dr (f:(ats t x).kind≠0):okP t x↔eh (ats t x).name (ats t x).pub/\((ats t x).hash.length=0\/(ats t x).hash.length=32)/\(ats t x).kind=1+(x:Int) % 2 /\
  ((ats t x).kind=1->(ats t x).un.length=0)/\((ats t x).kind≠1->unP t (loV x) (hiV x) (ats t x).un/\(ats t x).name=0):=by
 constructor
 ·rintro (h|⟨e,d,c,b,a⟩)
  ·rw[h] at f;exact absurd rfl f
  ·exact⟨d,c,e,λh=>by rw[b h];rfl,λh=>(a (by omega)).symm⟩
 ·rintro⟨d,c,e,b,a⟩
  exact .inr ⟨e,d,c,λh=>Kg (b h),λh=>(a (by omega)).symm⟩
def aK (e:Ending)(p:Prop):Prop:=∃ b,e=.returned (.bool b)/\(b=true↔p)
theorem lR {b:Nat}(h:a≠b):((a:Int)==(b:Int))=false:=JL.2 (by omega)
theorem Ds (u:Value)(t:List Nod)(x:Nat)(w:World)(k:NL w u t)(j:x<t.length)(l:(ats t x).kind=0):
  Calls prog 76 #[u,.int .i64 (x:Int)] w λe w'=>aK e (okP t x)/\Kp w w':=by
 obtain⟨a,c,rfl,p1,D⟩:=k.shape;unfold maxLen at D;obtain⟨b,E,rfl,G,A⟩:=k.at x j;obtain⟨p,q,h,f⟩:=A x j;have M:=f.kind;have L:=f.name;have K:=f.pubC;have J:=f.unC;have I:=f.hashC;have d:=Dq l;obtain⟨T,Q,rfl,_,_⟩:=f.2.pub.shape;obtain⟨S,O,rfl,_,_⟩:=f.2.un.shape;obtain⟨V,R,rfl,_,_⟩:=f.2.hash.shape;have F:(x:Int)<(t.length:Int):=by omega
 obtain⟨N,B⟩:∃ N,t.length=N:=⟨_,rfl⟩;rw[B] at F p1 ⊢;generalize (ats t x)=n at *;obtain⟨z,name,pub,C,i⟩:=n;simp only at l d M L K J I ⊢;subst l;generalize pub.length=P at *;generalize C.length=U at *;generalize i.length=H at *;clear f A k B G j;by_cases s:name=0
 ·subst s
  by_cases r:P=0
  ·subst r
   by_cases o:U=0
   ·subst o
    by_cases m:H=0
    ·subst m
     have g:=JE (d.2 ⟨rfl,rfl,rfl,rfl⟩);clear d;go_enter func76,ntmps76;go_wp2_with fail;go_ret;exact⟨⟨true,rfl,λ_=>g.out,λ_=>rfl⟩,(NQ _).alloc _⟩
    ·have g:=JE (λe=>m (d.1 e).2.2.2)
     have y:=lR m;have v:¬(H:Int)=0:=by omega
     clear d;go_enter func76,ntmps76;go_wp2_with fail;go_ret;exact⟨⟨_,rfl,λh=>absurd (Nk.1 h) v,λh=>absurd h g.out⟩,(NQ _).alloc _⟩
   ·have g:=JE (λe=>o (d.1 e).2.2.1)
    have y:=lR o;have v:¬(U:Int)=0:=by omega
    clear d;go_enter func76,ntmps76;go_wp2_with fail;go_ret;exact⟨⟨false,rfl,λh=>(by cases h),λh=>absurd h g.out⟩,(NQ _).alloc _⟩
  ·have g:=JE (λe=>r (d.1 e).2.1)
   have y:=lR r;have v:¬(P:Int)=0:=by omega
   clear d;go_enter func76,ntmps76;go_wp2_with fail;go_ret;exact⟨⟨false,rfl,λh=>(by cases h),λh=>absurd h g.out⟩,(NQ _).alloc _⟩
 ·have g:=JE (λe=>s (d.1 e).1)
  have y:(name==0)=false:=JL.2 s;clear d;go_enter func76,ntmps76;go_wp2_with fail;go_ret;exact⟨⟨false,rfl,λh=>(by cases h),λh=>absurd h g.out⟩,(NQ _).alloc _⟩
def ahead (lo:Int)(l:List Int)(k:Nat):Int:=if k=0 then lo - 1 else l.getD (k - 1) 0
theorem Dt (t:List Nod)(q c:Int)(l:List Int):unP t q c l↔∀ k,k<l.length->ahead q l k<l.getD k 0/\l.getD k 0<=c/\(ats t (2*(l.getD k 0).toNat)).kind=1:=by
 have f:∀ k (h:k<l.length),l.getD k 0=l[k]:=λk h=>by rw[JF,JG h];rfl
 constructor
 ·rintro⟨x,w⟩ k g
  rw[f k g];obtain⟨a,p,o⟩:=w l[k] (Ko g);refine⟨?_,p,o⟩;unfold ahead;by_cases n:k=0
  ·rw[if_pos n];omega
  ·rw[if_neg n,f _ (by omega)]
   exact(Lc.1 x) (k - 1) k (by omega) g (by omega)
 ·intro h
  have m:∀ d i j (c:i<l.length) (b:j<l.length),j=i+d+1->l[i]<l[j]:=by
   intro d;induction d with
   | zero=>
    intro i j c b e;obtain⟨a,_⟩:=h j b;unfold ahead at a;rw[if_neg (by omega),f _ (by omega),f _ b] at a;have:j - 1=i:=by omega
    subst this;exact a
   | succ d ih=>
    intro i j c b e;obtain⟨a,_⟩:=h j b;unfold ahead at a;rw[if_neg (by omega),f _ (by omega),f _ b] at a;have:=ih i (j - 1) c (by omega) (by omega);omega
  refine⟨Lc.2 λi j c b u=>m (j - i - 1) i j c b (by omega),λv s=>?_⟩;obtain⟨k,g,rfl⟩:=Ld s;obtain⟨a,p,o⟩:=h k g;rw[f k g] at a p o;refine⟨?_,p,o⟩;obtain⟨r,_⟩:=h 0 (by omega);unfold ahead at r;rw[if_pos rfl,f 0 (by omega)] at r;by_cases n:k=0
  ·subst n;omega
  ·have:=m (k - 1) 0 k (by omega) g (by omega)
   omega
theorem wP {n:Nat}(b:K<=10)(h:n=2 ^ (K+1) - 1)(g:x<n):0<=loV x/\loV x<=hiV x/\2*hiV x<(n:Int)/\hiV x<1024:=by
 subst h;obtain⟨j,q,rfl,i,a⟩:=iE K x g;obtain⟨_,d,c⟩:=ec b i a;obtain⟨f,e⟩:=kY d c;rw[f,e];have l:2 ^ K=2 ^ j*2 ^ (K - j):=by rw[<-Nat.pow_add];congr 1;omega
 have k:2 ^ j*(q+1)<=2 ^ K:=by rw[l];exact Nat.mul_le_mul_left _ a
 rw[Nat.mul_add,NB] at k;have:=bE j;have:=bi K;have:=bP b;omega
theorem sj (x:Nat):((x:Int)).tmod 2=(x:Int) % 2:=Kv (by omega)
theorem Du (u:Value)(t:List Nod)(x K:Nat)(w:World)(hu:NL w u t)(hK:K<=10)(hl:t.length=2 ^ (K+1) - 1)(hx:x<t.length)(hk:(ats t x).kind≠0):
  Calls prog 76 #[u,.int .i64 (x:Int)] w λe w'=>aK e (okP t x)/\Kp w w':=by
 obtain⟨a,c,rfl,p1,s1⟩:=hu.shape;unfold maxLen at s1;have HU:=JE hu;obtain⟨b,ar,rfl,hb,hc⟩:=hu.at x hx;obtain⟨p,q,h,Q⟩:=hc x hx;have c0:=Q.kind;have c1:=Q.name;have c2:=Q.pubC;have c3:=Q.unC;have c4:=Q.hashC;have C:=Dr hk;obtain⟨l1,l2,l3,l4⟩:=wP hK hl hx;have D:=JE (λW=>wN (x:Int) W);have s:=JE (Dt t (loV x) (hiV x) (ats t x).un);have L:Hid (∀ W,Kp w W->Calls prog 84 #[.int .i64 (ats t x).name,p] W λe w'=>e=.returned (.bool (decide (eh (ats t x).name (ats t x).pub)))/\W=w'):=λW hW=>si _ _ _ W (Q.2.pub.kp hW)
 have HQ:=JE Q.2.un;obtain⟨ap,cp,rfl,_,_⟩:=Q.2.pub.shape;obtain⟨aq,cq,rfl,u1,u2⟩:=Q.2.un.shape;obtain⟨ah,ch,rfl,_,_⟩:=Q.2.hash.shape;unfold maxLen at u2;have i3:(x:Int)<(t.length:Int):=by omega
 have tm:=sj x;have tw:IntKind.i64.wrap (1+(x:Int) % 2)=1+(x:Int) % 2:=JI _ (by omega);have ao:IntKind.i64.wrap ((x:Int) % 2)=(x:Int) % 2:=JI _ (by omega);obtain⟨N,hN⟩:∃ N,t.length=N:=⟨_,rfl⟩;rw[hN] at i3 p1 l3 HU ⊢;generalize loV (x:Int)=B at *;generalize hiV (x:Int)=I at *;have lw:IntKind.i64.wrap (B - 1)=B - 1:=JI _ (by omega);generalize unP t B I (ats t x).un=UP at *;generalize okP t x=F at *;generalize (ats t x)=n at *;obtain⟨y,name,pub,d,aj⟩:=n;simp only at hk C c0 c1 c2 c3 c4 s L HQ ⊢;generalize pub.length=P at *;generalize aj.length=H at *;clear Q hc hu hN hb hx hl hK;have au:(y==0)=false:=JL.2 hk;have HX:(x:Int) % 2=0\/(x:Int) % 2=1:=by omega
 generalize (x:Int) % 2=X2 at *;by_cases m:eh name pub
 ·rw[Ke m] at L
  have HH:H=0\/H=32\/(H≠0/\H≠32):=by omega
  rcases HH with rfl|rfl|⟨al,ak⟩
  ·rcases HX with rfl|rfl
   ·by_cases r:y=1
    ·subst r
     have aa:d.length<=cq:=u1;have o:Hid (F↔d.length=0):=⟨λe=>(C.1 e).2.2.2.1 rfl,λe=>C.2 ⟨m,.inl rfl,by omega,λ_=>e,λh=>absurd rfl h⟩⟩;obtain⟨U,T⟩:∃ U,d.length=U:=⟨_,rfl⟩;rw[T] at c3 o aa;clear C s m D T HQ u1;go_enter func76,ntmps76;go_wp2_with fail;refine(L.out _ ((NQ _).alloc _)).mono ?_;rintro _ _ ⟨rfl,rfl⟩;go_wp2_with fail;go_ret;exact⟨⟨_,rfl,λh=>o.out.2 (by have:=Nk.1 h;omega),λh=>Nk.2 (by have:=o.out.1 h;omega)⟩,(NQ _).alloc _⟩
    ·have ab:(y==1)=false:=JL.2 r
     have o:=JE (λe=>r (by have:=(C.1 e).2.2.1;omega));clear C s m D;go_enter func76,ntmps76;go_wp2_with fail;refine(L.out _ ((NQ _).alloc _)).mono ?_;rintro _ _ ⟨rfl,rfl⟩;go_wp2_with fail;go_ret;exact⟨⟨false,rfl,λh=>(by cases h),λh=>absurd h o.out⟩,(NQ _).alloc _⟩
   ·by_cases r:y=2
    ·subst r
     have HY:Hid ((∀ k,k<d.length->ahead B d k<d.getD k 0/\d.getD k 0<=I/\(ats t (2*(d.getD k 0).toNat)).kind=1)->(F↔name=0)):=λh=>⟨λe=>((C.1 e).2.2.2.2 (by decide)).2,λe=>C.2 ⟨m,.inl rfl,by omega,λh=>absurd h (by decide),λ_=>⟨s.out.2 h,e⟩⟩⟩
     have G:Hid ((¬∀ k,k<d.length->ahead B d k<d.getD k 0/\d.getD k 0<=I/\(ats t (2*(d.getD k 0).toNat)).kind=1)->¬F):=λh e=>h (s.out.1 ((C.1 e).2.2.2.2 (by decide)).1)
     have H0:Hid (ahead B d 0=B - 1):=if_pos rfl;have HS:Hid (∀ k,ahead B d (k+1)=d.getD k 0):=λk=>by
      unfold ahead;rw[if_neg (by omega),LR]
     obtain⟨U,T⟩:∃ U,d.length=U:=⟨_,rfl⟩;rw[T] at c3 HQ HY G u1;have an:U<=cq:=u1;clear C s m T u1;go_enter func76,ntmps76;go_wp2_with fail;refine(L.out _ ((NQ _).alloc _)).mono ?_;rintro _ _ ⟨rfl,rfl⟩;go_wp2_with fail;refine(D.out _).mono ?_;rintro _ _ ⟨rfl,rfl⟩;clear D L;have M:=JE ((NQ w).alloc (.cells #[.int .i64 2,.int .i64 name,.slice ap P cp,.slice aq U cq,.slice ah 0 ch] 81));have af:=JE (HQ.out.kp M.out);have ae:=JE (HU.out.kp M.out);clear HQ HU;go_wp2_with fail;go_loop [9,10] (λl i=>∃ k:Nat,k<=U/\i=.int .i64 (k:Int)/\l=.int .i64 (ahead B d k)/\-1<=ahead B d k/\(∀ j,j<k->ahead B d j<d.getD j 0/\d.getD j 0<=I/\(ats t (2*(d.getD j 0).toNat)).kind=1)) (λ_ i=>(U - (intOf i).toNat))
     case atStart=>exact⟨0,JW _,rfl,by rw[H0.out],by rw[H0.out];omega,λj h=>by omega⟩
     case round=>
      obtain⟨k,hk,rfl,rfl,am,z⟩:=hrel;by_cases J:k<U
      ·obtain⟨g1,o1,rfl,_,S⟩:=af.out.at k J
       have d1:=S k J;have E:=HS.out k;have i1:IntKind.i64.wrap ((k:Int)+1)=(k:Int)+1:=JI _ (by omega);have g:Hid ((ahead B d k<d.getD k 0/\d.getD k 0<=I/\(ats t (2*(d.getD k 0).toNat)).kind=1)->∀ j,j<k+1->ahead B d j<d.getD j 0/\d.getD j 0<=I/\(ats t (2*(d.getD j 0).toNat)).kind=1):=λhe j hj=>by
        rcases Kh (Kr.1 hj) with h3|h3
        ·exact z j h3
        ·rw[h3];exact he
       have f:Hid (¬(ahead B d k<d.getD k 0/\d.getD k 0<=I/\(ats t (2*(d.getD k 0).toNat)).kind=1)->¬F):=λh=>G.out λh2=>h (h2 k J)
       clear S z G HY H0 HS;generalize ahead B d k=A at *;generalize d.getD k 0=V at *;by_cases g1:A<V
       ·by_cases g2:V<=I
        ·obtain⟨v,rfl⟩:=Kc (show 0<=V by omega)
         rw[JX] at g f;obtain⟨b2,ag,e2,_,R⟩:=ae.out.at (2*v) (by omega);cases e2;obtain⟨p2,q2,h2,O⟩:=R (2*v) (by omega);have d2:=O.kind;have i4:IntKind.i64.wrap (2*(v:Int))=((2*v:Nat):Int):=by rw[JI _ (by omega)];omega
         have i5:((2*v:Nat):Int)<(N:Int):=by omega
         have X:¬(v:Int)<=A:=by omega
         have ad:¬I<(v:Int):=by omega
         clear R O;generalize (ats t (2*v)).kind=Z at *;generalize 2*v=V2 at *;by_cases g3:Z=1
         ·have HP:=JE (g.out ⟨g1,g2,g3⟩)
          subst g3;have Y:=JE E;clear g f E;go_wp2_with fail;go_round
          case rel=>exact⟨k+1,by omega,by go_num,by rw[Y.out],by rw[Y.out];omega,HP.out⟩
          case measure=>simp[intOf];omega
         ·have o:=JE (f.out λh=>g3 h.2.2)
          have ai:(Z==1)=false:=JL.2 g3;clear g f E;go_wp2_with fail;go_ret;exact⟨⟨false,rfl,λh=>(by cases h),λh=>absurd h o.out⟩,M.out⟩
        ·have o:=JE (f.out λh=>g2 h.2.1)
         have X:¬V<=A:=by omega
         have ad:I<V:=by omega
         clear g f E;go_wp2_with fail;go_ret;exact⟨⟨false,rfl,λh=>(by cases h),λh=>absurd h o.out⟩,M.out⟩
       ·have o:=JE (f.out λh=>g1 h.1)
        have X:V<=A:=by omega
        clear g f E;go_wp2_with fail;go_ret;exact⟨⟨false,rfl,λh=>(by cases h),λh=>absurd h o.out⟩,M.out⟩
      ·obtain rfl:k=U:=by omega
       have o:=JE (HY.out z);clear HY G z HS H0;go_wp2_with fail;go_ret;exact⟨⟨_,rfl,λh=>o.out.2 (Nk.1 h),λh=>Nk.2 (o.out.1 h)⟩,M.out⟩
    ·have ab:(y==2)=false:=JL.2 r
     have o:=JE (λe=>r (by have:=(C.1 e).2.2.1;omega));clear C s m D;go_enter func76,ntmps76;go_wp2_with fail;refine(L.out _ ((NQ _).alloc _)).mono ?_;rintro _ _ ⟨rfl,rfl⟩;go_wp2_with fail;go_ret;exact⟨⟨false,rfl,λh=>(by cases h),λh=>absurd h o.out⟩,(NQ _).alloc _⟩
  ·rcases HX with rfl|rfl
   ·by_cases r:y=1
    ·subst r
     have aa:d.length<=cq:=u1;have o:Hid (F↔d.length=0):=⟨λe=>(C.1 e).2.2.2.1 rfl,λe=>C.2 ⟨m,.inr rfl,by omega,λ_=>e,λh=>absurd rfl h⟩⟩;obtain⟨U,T⟩:∃ U,d.length=U:=⟨_,rfl⟩;rw[T] at c3 o aa;clear C s m D T HQ u1;go_enter func76,ntmps76;go_wp2_with fail;refine(L.out _ ((NQ _).alloc _)).mono ?_;rintro _ _ ⟨rfl,rfl⟩;go_wp2_with fail;go_ret;exact⟨⟨_,rfl,λh=>o.out.2 (by have:=Nk.1 h;omega),λh=>Nk.2 (by have:=o.out.1 h;omega)⟩,(NQ _).alloc _⟩
    ·have ab:(y==1)=false:=JL.2 r
     have o:=JE (λe=>r (by have:=(C.1 e).2.2.1;omega));clear C s m D;go_enter func76,ntmps76;go_wp2_with fail;refine(L.out _ ((NQ _).alloc _)).mono ?_;rintro _ _ ⟨rfl,rfl⟩;go_wp2_with fail;go_ret;exact⟨⟨false,rfl,λh=>(by cases h),λh=>absurd h o.out⟩,(NQ _).alloc _⟩
   ·by_cases r:y=2
    ·subst r
     have HY:Hid ((∀ k,k<d.length->ahead B d k<d.getD k 0/\d.getD k 0<=I/\(ats t (2*(d.getD k 0).toNat)).kind=1)->(F↔name=0)):=λh=>⟨λe=>((C.1 e).2.2.2.2 (by decide)).2,λe=>C.2 ⟨m,.inr rfl,by omega,λh=>absurd h (by decide),λ_=>⟨s.out.2 h,e⟩⟩⟩
     have G:Hid ((¬∀ k,k<d.length->ahead B d k<d.getD k 0/\d.getD k 0<=I/\(ats t (2*(d.getD k 0).toNat)).kind=1)->¬F):=λh e=>h (s.out.1 ((C.1 e).2.2.2.2 (by decide)).1)
     have H0:Hid (ahead B d 0=B - 1):=if_pos rfl;have HS:Hid (∀ k,ahead B d (k+1)=d.getD k 0):=λk=>by
      unfold ahead;rw[if_neg (by omega),LR]
     obtain⟨U,T⟩:∃ U,d.length=U:=⟨_,rfl⟩;rw[T] at c3 HQ HY G u1;have an:U<=cq:=u1;clear C s m T u1;go_enter func76,ntmps76;go_wp2_with fail;refine(L.out _ ((NQ _).alloc _)).mono ?_;rintro _ _ ⟨rfl,rfl⟩;go_wp2_with fail;refine(D.out _).mono ?_;rintro _ _ ⟨rfl,rfl⟩;clear D L;have M:=JE ((NQ w).alloc (.cells #[.int .i64 2,.int .i64 name,.slice ap P cp,.slice aq U cq,.slice ah 32 ch] 81));have af:=JE (HQ.out.kp M.out);have ae:=JE (HU.out.kp M.out);clear HQ HU;go_wp2_with fail;go_loop [9,10] (λl i=>∃ k:Nat,k<=U/\i=.int .i64 (k:Int)/\l=.int .i64 (ahead B d k)/\-1<=ahead B d k/\(∀ j,j<k->ahead B d j<d.getD j 0/\d.getD j 0<=I/\(ats t (2*(d.getD j 0).toNat)).kind=1)) (λ_ i=>(U - (intOf i).toNat))
     case atStart=>exact⟨0,JW _,rfl,by rw[H0.out],by rw[H0.out];omega,λj h=>by omega⟩
     case round=>
      obtain⟨k,hk,rfl,rfl,am,z⟩:=hrel;by_cases J:k<U
      ·obtain⟨g1,o1,rfl,_,S⟩:=af.out.at k J
       have d1:=S k J;have E:=HS.out k;have i1:IntKind.i64.wrap ((k:Int)+1)=(k:Int)+1:=JI _ (by omega);have g:Hid ((ahead B d k<d.getD k 0/\d.getD k 0<=I/\(ats t (2*(d.getD k 0).toNat)).kind=1)->∀ j,j<k+1->ahead B d j<d.getD j 0/\d.getD j 0<=I/\(ats t (2*(d.getD j 0).toNat)).kind=1):=λhe j hj=>by
        rcases Kh (Kr.1 hj) with h3|h3
        ·exact z j h3
        ·rw[h3];exact he
       have f:Hid (¬(ahead B d k<d.getD k 0/\d.getD k 0<=I/\(ats t (2*(d.getD k 0).toNat)).kind=1)->¬F):=λh=>G.out λh2=>h (h2 k J)
       clear S z G HY H0 HS;generalize ahead B d k=A at *;generalize d.getD k 0=V at *;by_cases g1:A<V
       ·by_cases g2:V<=I
        ·obtain⟨v,rfl⟩:=Kc (show 0<=V by omega)
         rw[JX] at g f;obtain⟨b2,ag,e2,_,R⟩:=ae.out.at (2*v) (by omega);cases e2;obtain⟨p2,q2,h2,O⟩:=R (2*v) (by omega);have d2:=O.kind;have i4:IntKind.i64.wrap (2*(v:Int))=((2*v:Nat):Int):=by rw[JI _ (by omega)];omega
         have i5:((2*v:Nat):Int)<(N:Int):=by omega
         have X:¬(v:Int)<=A:=by omega
         have ad:¬I<(v:Int):=by omega
         clear R O;generalize (ats t (2*v)).kind=Z at *;generalize 2*v=V2 at *;by_cases g3:Z=1
         ·have HP:=JE (g.out ⟨g1,g2,g3⟩)
          subst g3;have Y:=JE E;clear g f E;go_wp2_with fail;go_round
          case rel=>exact⟨k+1,by omega,by go_num,by rw[Y.out],by rw[Y.out];omega,HP.out⟩
          case measure=>simp[intOf];omega
         ·have o:=JE (f.out λh=>g3 h.2.2)
          have ai:(Z==1)=false:=JL.2 g3;clear g f E;go_wp2_with fail;go_ret;exact⟨⟨false,rfl,λh=>(by cases h),λh=>absurd h o.out⟩,M.out⟩
        ·have o:=JE (f.out λh=>g2 h.2.1)
         have X:¬V<=A:=by omega
         have ad:I<V:=by omega
         clear g f E;go_wp2_with fail;go_ret;exact⟨⟨false,rfl,λh=>(by cases h),λh=>absurd h o.out⟩,M.out⟩
       ·have o:=JE (f.out λh=>g1 h.1)
        have X:V<=A:=by omega
        clear g f E;go_wp2_with fail;go_ret;exact⟨⟨false,rfl,λh=>(by cases h),λh=>absurd h o.out⟩,M.out⟩
      ·obtain rfl:k=U:=by omega
       have o:=JE (HY.out z);clear HY G z HS H0;go_wp2_with fail;go_ret;exact⟨⟨_,rfl,λh=>o.out.2 (Nk.1 h),λh=>Nk.2 (o.out.1 h)⟩,M.out⟩
    ·have ab:(y==2)=false:=JL.2 r
     have o:=JE (λe=>r (by have:=(C.1 e).2.2.1;omega));clear C s m D;go_enter func76,ntmps76;go_wp2_with fail;refine(L.out _ ((NQ _).alloc _)).mono ?_;rintro _ _ ⟨rfl,rfl⟩;go_wp2_with fail;go_ret;exact⟨⟨false,rfl,λh=>(by cases h),λh=>absurd h o.out⟩,(NQ _).alloc _⟩
  ·have ay:=lR al
   have ax:=lR ak;have aw:¬(H:Int)=0:=by omega
   have av:¬(H:Int)=32:=by omega
   have o:=JE (show ¬F from λe=>by have:=(C.1 e).2.1;omega);clear C s m D;go_enter func76,ntmps76;go_wp2_with fail;refine(L.out _ ((NQ _).alloc _)).mono ?_;rintro _ _ ⟨rfl,rfl⟩;go_wp2_with fail;go_ret;exact⟨⟨false,rfl,λh=>(by cases h),λh=>absurd h o.out⟩,(NQ _).alloc _⟩
 ·rw[Kb m] at L
  have o:=JE (λe=>m (C.1 e).1);clear C s m D;go_enter func76,ntmps76;go_wp2_with fail;refine(L.out _ ((NQ _).alloc _)).mono ?_;rintro _ _ ⟨rfl,rfl⟩;go_wp2_with fail;go_ret;exact⟨⟨false,rfl,λh=>(by cases h),λh=>absurd h o.out⟩,(NQ _).alloc _⟩
theorem Dy {b:Nat}(e:K<=10)(o:a<2 ^ K)(u:b<2 ^ K)(f:Nat->Nat)(t:f=λi=>nd i (a / 2 ^ i)):
  f 0=2*a/\f (bG a b)=coN a b /\
  (∀ i,i<=bG a b->lev (f i)=i) /\
  (∀ i,i<bG a b->¬(loV ((f i:Nat):Int)<=(b:Int)/\(b:Int)<=hiV ((f i:Nat):Int))/\paE ((f i:Nat):Int) ((2 ^ K:Nat):Int)=0/\paV ((f i:Nat):Int) ((2 ^ K:Nat):Int)=((f (i+1):Nat):Int)) /\
  loV ((f (bG a b):Nat):Int)<=(b:Int)/\(b:Int)<=hiV ((f (bG a b):Nat):Int):=by
 subst t;obtain⟨s,r,p⟩:=oJ e o u;generalize v:bG a b=M at *;have n:∀ i,i<=K->a / 2 ^ i<2 ^ (K - i):=λi c=>by
  have:=ke (K:=K) (j:=0) (q:=a) (i:=i) (by simpa using o) (by omega);simpa using this
 have d:∀ i,i<=K->(loV ((nd i (a / 2 ^ i):Nat):Int)<=(b:Int)/\(b:Int)<=hiV ((nd i (a / 2 ^ i):Nat):Int)↔b / 2 ^ i=a / 2 ^ i):=λi c=>by
  obtain⟨_,x,w⟩:=ec e c (n i c);obtain⟨m,l⟩:=kY x w;rw[m,l,<-qJ];constructor
  ·rintro⟨k,g⟩;exact⟨by exact_mod_cast k,by exact_mod_cast g⟩
  ·rintro⟨k,g⟩;exact⟨by exact_mod_cast k,by exact_mod_cast g⟩
 refine⟨?_,?_,λi c=>fV _ _ (by omega),λi c=>⟨λh=>?_,?_⟩,?_⟩
 ·simp[eF]
 ·unfold coN;rw[v]
 ·exact p i c ((d i (by omega)).1 h).symm
 ·obtain⟨m,l,_⟩:=oK (K:=K) (j:=i) (q:=a / 2 ^ i) e (by omega) (n i (by omega))
  refine⟨m,?_⟩;show _=((nd (i+1) (a / 2 ^ (i+1)):Nat):Int)
  rw[l,oI]
 ·exact(d M s).2 r.symm
theorem Dz (K a b:Nat)(w:World)(n:K<=10)(r:a<2 ^ K)(p:b<2 ^ K):
  Calls prog 30 #[.int .i64 (a:Int),.int .i64 (b:Int),.int .i64 ((2 ^ K:Nat):Int)] w λe w'=>e=.returned (.tuple #[.int .i64 ((coN a b:Nat):Int),.int .i64 0])/\w=w':=by
 obtain⟨f,B⟩:∃ f:Nat->Nat,f=λi=>nd i (a / 2 ^ i):=⟨_,rfl⟩
 obtain⟨u1,u2,u3,u4,u5,u6⟩:=Dy n r p f B;have G:=bP n;have H:=(oJ n r p).1;have m:-9223372036854775808<=((2 ^ K:Nat):Int)/\((2 ^ K:Nat):Int)<=9223372036854775807:=by omega
 have y:=JE (qL ((2 ^ K:Nat):Int) w);rw[kX K n] at y;have j:Hid (∀ x,Calls prog 79 #[.int .i64 x] w λe w'=>e=.returned (.tuple #[.int .i64 (loV x),.int .i64 (hiV x)])/\w=w'):=λx=>wN x w
 have g:Hid (∀ i,i<bG a b->Calls prog 80 #[.int .i64 ((f i:Nat):Int),.int .i64 ((2 ^ K:Nat):Int)] w λe w'=>e=.returned (.tuple #[.int .i64 ((f (i+1):Nat):Int),.int .i64 0])/\w=w'):=λi l=>by
  have:=pG ((f i:Nat):Int) ((2 ^ K:Nat):Int) w m;rwa [(u4 i l).2.1,(u4 i l).2.2] at this
 have t:Hid (∀ i,i<bG a b->¬(loV ((f i:Nat):Int)<=(b:Int)/\(b:Int)<=hiV ((f i:Nat):Int))):=λi l=>(u4 i l).1
 have q:=JE u3;have v:Hid (2*(a:Int)=((f 0:Nat):Int)):=by unfold Hid;omega
 have z:IntKind.i64.wrap (2*(a:Int))=2*(a:Int):=JI _ (by omega);have s:=JE (JN u5 u6);have u:=JE u2;have Q:(a:Int)<((2 ^ K:Nat):Int):=by omega
 have P:(b:Int)<((2 ^ K:Nat):Int):=by omega
 have O:¬(a:Int)<0:=by omega
 have L:¬(b:Int)<0:=by omega
 generalize bG a b=M at *;generalize coN a b=C at *;generalize ((2 ^ K:Nat):Int)=N at *;clear u1 u2 u3 u4 u5 u6 B r p G m;go_enter func30,ntmps30;go_wp2_with fail;refine y.out.mono ?_;rintro _ _ ⟨rfl,rfl⟩;clear y;go_wp2_with fail;go_loop [9] (λx=>∃ i:Nat,i<=M/\x=.int .i64 ((f i:Nat):Int)) (λx=>(30 - lev (intOf x).toNat))
 case atStart=>exact⟨0,JW _,by rw[<-v.out]⟩
 case round=>
  obtain⟨i,l,rfl⟩:=hrel;have k:=JE (j.out ((f i:Nat):Int));by_cases d:i<M
  ·have c:=t.out i d
   have o:=JE (g.out i d);have A:=JE (JN (q.out i l) (q.out (i+1) d));have p:=JE n;generalize loV ((f i:Nat):Int)=E at *;generalize hiV ((f i:Nat):Int)=F at *;clear j g t q v s u z;by_cases D:E<=(b:Int)
   ·have I:¬(b:Int)<=F:=λh=>c ⟨D,h⟩
    clear c;go_wp2_with fail;refine k.out.mono ?_;rintro _ _ ⟨rfl,rfl⟩;go_wp2_with fail;refine o.out.mono ?_;rintro _ _ ⟨rfl,rfl⟩;go_wp2_with fail;go_round
    case rel=>exact⟨i+1,by omega,rfl⟩
    case measure=>have:=A.out;simp[intOf];omega
   ·clear c
    go_wp2_with fail;refine k.out.mono ?_;rintro _ _ ⟨rfl,rfl⟩;go_wp2_with fail;refine o.out.mono ?_;rintro _ _ ⟨rfl,rfl⟩;go_wp2_with fail;go_round
    case rel=>exact⟨i+1,by omega,rfl⟩
    case measure=>have:=A.out;simp[intOf];omega
  ·obtain rfl:i=M:=by omega
   obtain⟨D,I⟩:=s.out;have J:=JE u.out;generalize loV ((f i:Nat):Int)=E at *;generalize hiV ((f i:Nat):Int)=F at *;clear j g t q v s u z;go_wp2_with fail;refine k.out.mono ?_;rintro _ _ ⟨rfl,rfl⟩;go_wp2_with fail;go_ret2;exact⟨by rw[J.out] <;> rfl,rfl⟩
theorem fb {P:Program}{t e:TypeId}(U:U8 P t e){g:Array Oper}{o:Oper}{a:Act}{K:Act->World->Prop}{Q:Exit->Act->World->Prop}{E:Prop}
  (n:o.guard=none) (s x:Operand) (h:o.op=Op.call { callee:=Callee.builtin Builtin.append,args:=#[s,x],argTypes:=#[t,t] })
  (B:Nat) (v:Value) (l:List UInt8) (k:a.eval s=v) (c:Ow e w B v l) (aa:Value) (m:List UInt8) (i:a.eval x=aa) (j:Rd w aa m)
  (d:l.length+m.length<=140737488355328) (b:B<=w.heap.size)
  (p:∀ f w',Ow e w' B f (l++m)->w.grownBy w' v.ownBlock->K (a.put o.dst f) w'):
  if Region.wanted o (yielded g a.tmps)=true then Oper.wp P o a w K Q else E:=by
 rw[if_pos (by simp[Region.wanted,n])];exact Al U s x h B v l k c aa m i j d b (λf w' r q _=>p f w' r q)
theorem qB {v:Value}{l:List UInt8}(h:Rd w v l):∃ a n c,v=.slice a n c:=by
 obtain⟨a,c,e,_⟩:=h.shape;exact⟨_,_,_,e⟩
theorem tf (n:Nat)(w:World)(d:n<=65535):
  Calls prog 229 #[.int .i64 (n:Int)] w λe w'=>(∃ r,e=.returned r/\Ow 5 w' w.heap.size r (be 2 n))/\Kp w w':=by
 have k:(n:Int).tdiv 256=((n / 256:Nat):Int):=by rw[Kx (by omega)];omega
 have j:(n:Int).tmod 256=((n % 256:Nat):Int):=by rw[Kv (by omega)];omega
 have i:IntKind.i64.wrap ((n / 256:Nat):Int)=((n / 256:Nat):Int):=JI _ (by omega);have h:IntKind.u8.wrap ((n / 256:Nat):Int)=((n / 256:Nat):Int):=by simp[IntKind.wrap,IntKind.signed,IntKind.bits];omega
 have g:IntKind.u8.wrap ((n % 256:Nat):Int)=((n % 256:Nat):Int):=by simp[IntKind.wrap,IntKind.signed,IntKind.bits]
 have f:IntKind.i64.wrap ((n % 256:Nat):Int)=((n % 256:Nat):Int):=JI _ (by omega);have c:Hid (#[(.int .u8 ((n / 256:Nat):Int):Value),.int .u8 ((n % 256:Nat):Int)].toList=Lib.byteCells (be 2 n)):=by
  unfold Hid;have b:(UInt8.ofNat (n / 256)).toNat=n / 256:=by simp;omega
  have a:(UInt8.ofNat n).toNat=n % 256:=by simp
  rw[jc,jc];simp only[Lib.byteCells,be,Nat.pow_one,Nat.pow_zero,Nat.div_one,List.map_cons,List.map_nil,b,a]
 generalize ((n / 256:Nat):Int)=X at *;generalize ((n % 256:Nat):Int)=Y at *;go_enter func229,ntmps229;go_wp2_with fail;go_ret;exact⟨⟨_,rfl,NT w _ _ 2 _ _ (JO _) (bq 2 n) (by omega) c.out⟩,(NQ _).alloc _⟩
theorem iC (v:Value)(l:List UInt8)(w:World)(h:Rd w v l):
  Calls prog 191 #[v] w λe w'=>(∃ r,e=.returned r/\Ow 5 w' w.heap.size r (aO l))/\Kp w w':=by
 have f:=JE (pn v l w h);obtain⟨a,c,rfl,_,_⟩:=h.shape;go_enter func191,ntmps191;go_wp2_with fail;refine f.out.mono ?_;rintro _ g ⟨r,rfl,b,d⟩;obtain⟨k,i,j,rfl⟩:=qB b.rd;go_wp2_with fail;go_ret;exact⟨⟨_,rfl,b⟩,d⟩
theorem tg (v:Value)(n:Nod)(w:World)(hv:NV w v n)(hn:el n):
  Calls prog 230 #[v] w λe w'=>(∃ r,e=.returned r/\Ow 5 w' w.heap.size r (cR n))/\Kp w w':=by
 have U:=aj;obtain⟨p,aa,h,rfl,ip,iu,ih⟩:=hv;obtain⟨a,nm,pub,c,d⟩:=n;obtain⟨hk,an,O,A,z,ae⟩:=hn;simp only at hk an O A z ae ip iu ih;obtain⟨T,L,Q,rfl⟩:=qB ip;obtain⟨V,M,R,rfl⟩:=qB ih;obtain⟨S,K,P,rfl⟩:=iu.sl;simp only[cj];obtain⟨N,rfl⟩:=Kc an.1;have lp:=fo (x:=pub) (by omega);have lh:=fo (x:=d) (by omega);obtain⟨b,f⟩:∃ b:Int->World,b=λa=>w.alloc (.cells #[.int .i64 a,.int .i64 (N:Int),.slice T L Q,.slice S K P,.slice V M R] 81):=⟨_,rfl⟩
 have q:Hid (∀ a,Kp w (b a)/\(b a).heap.size=w.heap.size+1):=λa=>by rw[f];exact⟨(NQ _).alloc _,by simp⟩
 have C:Hid (∀ a,(b a).rangeAt w.heap.size 0 [.int .i64 a,.int .i64 (N:Int),.slice T L Q,.slice S K P,.slice V M R]):=λa=>by
  rw[f];intro j v hv;rw[cell_of_row _ _ (0+j) _ _ _ (heap_alloc_new w _)];simpa using hv
 have g:Hid (∀ a W,Kp (b a) W->W.cell? ⟨w.heap.size,2,none⟩=some (.slice T L Q)/\W.cell? ⟨w.heap.size,4,none⟩=some (.slice V M R)):=λa W s=>⟨s.cell (C.out a 2 _ rfl),s.cell (C.out a 4 _ rfl)⟩
 have B:Hid (∀ a W,Kp (b a) W->W.cell? ⟨w.heap.size,3,none⟩=some (.slice S K P)/\W.cell? ⟨w.heap.size,0,none⟩=some (.int .i64 a)):=λa W s=>⟨s.cell (C.out a 3 _ rfl),s.cell (C.out a 0 _ rfl)⟩
 have HP:Hid (∀ a W,Kp (b a) W->Calls prog 191 #[.slice T L Q] W λe w'=>(∃ r,e=.returned r/\Ow 5 w' W.heap.size r (aO pub))/\Kp W w'):=λa W s=>iC _ pub W (ip.kp ((q.out a).1.trans s))
 have HH:Hid (∀ a W,Kp (b a) W->Calls prog 191 #[.slice V M R] W λe w'=>(∃ r,e=.returned r/\Ow 5 w' W.heap.size r (aO d))/\Kp W w'):=λa W s=>iC _ d W (ih.kp ((q.out a).1.trans s))
 have t:Hid (∀ a W,Kp (b a) W->RI W (.slice S K P) c):=λa W s=>iu.kp ((q.out a).1.trans s)
 have HT:=JE (λW=>tf N W (by omega));have I:Hid (∀ a,w.alloc (.cells #[.int .i64 a,.int .i64 (N:Int),.slice T L Q,.slice S K P,.slice V M R] 81)=b a):=λa=>by rw[f]
 clear f C ip iu ih;rcases hk with rfl|rfl|rfl
 ·go_enter func230,ntmps230
  go_wp2_with fail;go_ret;refine⟨⟨_,rfl,?_⟩,((NQ _).alloc _).alloc _⟩;have:=NT (w.alloc (.cells #[.int .i64 0,.int .i64 (N:Int),.slice T L Q,.slice S K P,.slice V M R] 81)) 5 w.heap.size 1 #[.int .u8 0] [0] (by simp) rfl (by omega) rfl;rwa [JY] at this
 ·have g:=JE (g.out 1);have HP:=JE (HP.out 1);have HH:=JE (HH.out 1);have B:=JE (B.out 1);have m:=I.out 1
  obtain⟨kw,k⟩:=q.out 1;have HN:Hid (cR ⟨1,(N:Int),pub,c,d⟩=[1]++be 2 N++aO pub++aO d):=rfl;rw[HN.out];obtain⟨b,f⟩:∃ X,b 1=X:=⟨_,rfl⟩;rw[f] at kw k g HP HH B m;have F:=JE (JN kw k);have HW:=JE m;clear q t f I m kw k;go_enter func230,ntmps230;go_wp2_with fail;rw[HW.out];refine(HT.out _).mono ?_;rintro _ w2 ⟨⟨r2,rfl,o2⟩,k2⟩;have o1:=NT b 5 b.heap.size 1 #[.int .u8 1] [1] (JO _) rfl (by omega) rfl;rw[F.out.2] at o1;have K2:Hid (Kp b w2):=((NQ b).alloc _).trans k2;have ab:=o1.kp k2;go_wp2_with(at_builtin;refine bw U rfl _ _ rfl (w.heap.size+1) _ [1] rfl ab _ (be 2 N) rfl o2.rd (by simp[bq]) (by have:=K2.out.size;have:=F.out.2;omega) ?_;intro v3 w3 o3 g3 _;have Y:Hid (Kp b w3):=NS K2.out g3 (by rw[F.out.2];exact ab.own_ge);have c0:=(B.out _ Y.out).2)
  rw[<-F.out.2] at o3;clear o1 ab o2 k2 g3 K2 c0;have S3:=JE (g.out _ Y.out.drew);go_region_held3 (λW=>W.cell? ⟨w.heap.size,2,none⟩=some (.slice T L Q)/\W.cell? ⟨w.heap.size,4,none⟩=some (.slice V M R))
   (first|with_reducible exact S3.out|with_reducible exact S4.out|with_reducible exact S5.out|with_reducible exact S6.out|with_reducible exact S7.out)
   (first
    | (refine fb U rfl (.tmp 25) (.tmp 28) rfl b.heap.size _ _ rfl u _ _ rfl o6.rd (by simp only[JQ,Ka,Kf,bq];omega) K6.out.size ?_;intro v7 w7 o7 g7;have E:=JE (NS K6.out g7 u.own_ge);have S7:=JE (g.out _ E.out))
    | (go_at_call 191;refine(HH.out _ K5.out).mono ?_;rintro _ w6 ⟨⟨r6,rfl,o6⟩,k6⟩;have K6:=JE (K5.out.trans k6);have S6:=JE (g.out _ K6.out);have u:=o5.kp k6)
    | (refine fb U rfl (.tmp 21) (.tmp 24) rfl b.heap.size _ _ rfl y _ _ rfl o4.rd (by simp only[JQ,Ka,Kf,bq];omega) K4.out.size ?_;intro v5 w5 o5 g5;have K5:=JE (NS K4.out g5 y.own_ge);have S5:=JE (g.out _ K5.out))
    | (go_at_call 191;refine(HP.out _ Y.out.drew).mono ?_;rintro _ w4 ⟨⟨r4,rfl,o4⟩,k4⟩;have K4:=JE (Y.out.drew.trans k4);have S4:=JE (g.out _ K4.out);have y:=o3.kp ((NQ _).drew.trans k4)))
  have c0:=(B.out _ E.out).2;go_wp2_with fail;go_ret;have hz:=F.out;exact⟨⟨_,rfl,o7.mono (by omega)⟩,hz.1.trans E.out⟩
 ·have g:=JE (g.out 2);have HP:=JE (HP.out 2);have HH:=JE (HH.out 2);have B:=JE (B.out 2);have t:=JE (t.out 2);have m:=I.out 2
  obtain⟨kw,k⟩:=q.out 2;obtain⟨L7,H⟩:∃ L7,L7=[2]++aO pub++aO d:=⟨_,rfl⟩;have HN:Hid (cR ⟨2,(N:Int),pub,c,d⟩=L7++aO (unB c)):=by unfold Hid;rw[H];rfl
  have ax:=JE H;have aC:Hid (L7.length<=200):=by unfold Hid;rw[H];simp only[JQ,Ka,Kf];omega
  clear H;rw[HN.out];obtain⟨b,f⟩:∃ X,b 2=X:=⟨_,rfl⟩;rw[f] at kw k g HP HH B t m;have F:=JE (JN kw k);have HW:=JE m;clear q f I m kw k HT;go_enter func230,ntmps230;go_wp2_with fail;rw[HW.out];have o3:=NT b 5 b.heap.size 1 #[.int .u8 2] [2] (JO _) rfl (by omega) rfl;have Y:Hid (Kp b (b.alloc (.cells #[.int .u8 2] 5))):=(NQ b).alloc _;generalize b.alloc (.cells #[.int .u8 2] 5)=w3 at *;obtain⟨v3,ad⟩:∃ v3,Value.slice (some ⟨w.heap.size+1,0,none⟩) 1 1=v3:=⟨_,rfl⟩;rw[F.out.2,ad,<-F.out.2] at o3;rw[ad];clear ad;have S3:=JE (g.out _ Y.out.drew);go_region_held3 (λW=>W.cell? ⟨w.heap.size,2,none⟩=some (.slice T L Q)/\W.cell? ⟨w.heap.size,4,none⟩=some (.slice V M R))
   (first|with_reducible exact S3.out|with_reducible exact S4.out|with_reducible exact S5.out|with_reducible exact S6.out|with_reducible exact S7.out)
   (first
    | (refine fb U rfl (.tmp 25) (.tmp 28) rfl b.heap.size _ _ rfl u _ _ rfl o6.rd (by simp only[JQ,Ka,Kf,bq];omega) K6.out.size ?_;intro v7 w7 o7 g7;have E:=JE (NS K6.out g7 u.own_ge);have S7:=JE (g.out _ E.out))
    | (go_at_call 191;refine(HH.out _ K5.out).mono ?_;rintro _ w6 ⟨⟨r6,rfl,o6⟩,k6⟩;have K6:=JE (K5.out.trans k6);have S6:=JE (g.out _ K6.out);have u:=o5.kp k6)
    | (refine fb U rfl (.tmp 21) (.tmp 24) rfl b.heap.size _ _ rfl y _ _ rfl o4.rd (by simp only[JQ,Ka,Kf,bq];omega) K4.out.size ?_;intro v5 w5 o5 g5;have K5:=JE (NS K4.out g5 y.own_ge);have S5:=JE (g.out _ K5.out))
    | (go_at_call 191;refine(HP.out _ Y.out.drew).mono ?_;rintro _ w4 ⟨⟨r4,rfl,o4⟩,k4⟩;have K4:=JE (Y.out.drew.trans k4);have S4:=JE (g.out _ K4.out);have y:=o3.kp ((NQ _).drew.trans k4)))
  have c0:=(B.out _ E.out).2;rw[<-ax.out] at o7;obtain⟨kz,zs⟩:=F.out;have aw:=JE (JN kz (show w.heap.size<=b.heap.size by omega));have o:Hid (∀ W,Kp w7 W->W.cell? ⟨w.heap.size,3,none⟩=some (.slice S K P)/\RI W (.slice S K P) c):=λW s=>⟨(B.out _ (E.out.trans s)).1,t.out _ (E.out.trans s)⟩
  have az:=z;obtain⟨_,aF,eu,_,_⟩:=(o.out _ (NQ _)).2.shape;simp only[JR] at eu;obtain⟨-,ag,-⟩:=eu;obtain⟨D,af⟩:∃ D,c.length=D:=⟨_,rfl⟩;rw[af] at ag az;rw[ag] at o ⊢;have HT:Hid (∀ (i:Nat) W,i<D->Calls prog 229 #[.int .i64 (c.getD i 0)] W λe w'=>(∃ r,e=.returned r/\Ow 5 w' W.heap.size r (be 2 (c.getD i 0).toNat))/\Kp W w'):=λi W hi=>by
   have hm:c.getD i 0∈c:=by rw[JF,JG (by omega)];exact Ko _
   obtain⟨h0,h1⟩:=ae _ hm;have h2:c.getD i 0=((c.getD i 0).toNat:Int):=by omega
   rw[h2];have:=tf (c.getD i 0).toNat W (by omega);rwa [JX]
  have ak:Hid (∀ i,i<D->unB (c.take (i+1))=unB (c.take i)++be 2 (c.getD i 0).toNat):=λi hi=>by
   rw[<-uM];congr 1
   rw[Na,JF,JG (by omega)];rfl
  have al:Hid (c.take D=c):=by unfold Hid;rw[<-af];exact Kz
  have ai:Hid (∀ i,(unB (c.take i)).length<=200):=λi=>by rw[mV,Ki];omega
  have J:Hid ((unB c).length<=200):=by unfold Hid;rw[mV];omega
  clear HN ax af ae z B t kz zs F ag O A;have aA:=(o.out _ (NQ _)).1;go_wp2_with fail;clear aA c0;go_loopw[4,5] (λv x wr=>∃ i:Nat,i<=D/\x=.int .i64 (i:Int)/\Ow 5 wr w7.heap.size v (unB (c.take i))/\Kp w7 wr) (λ_ x _=>(D - (intOf x).toNat))
  case atStart=>exact⟨0,JW _,rfl,by rw[LZ];exact NR _ _ _,NQ _⟩
  case round=>
   obtain⟨i,hi,rfl,ho,l⟩:=hrel;have aE:=(o.out _ l).1;by_cases G:i<D
   ·obtain⟨gu,ou,rfl,_,aq⟩:=(o.out _ l).2.at i G
    have aD:=aq i G;have i1:IntKind.i64.wrap ((i:Int)+1)=(i:Int)+1:=JI _ (by omega);have i3:(i:Int)<(D:Int):=by omega
    have aB:=JE (HT.out i wr G);have Z:=JE (ak.out i G);have KR:=JE l;have HO:=JE ho;have ao:=ai.out i;generalize c.getD i 0=X at *;obtain⟨UB,ar⟩:∃ UB,unB (c.take i)=UB:=⟨_,rfl⟩;rw[ar] at HO Z ao;clear aq l ho HT ak ar ai J al o;go_wp2_with fail;refine aB.out.mono ?_;rintro _ w8 ⟨⟨r8,rfl,o8⟩,k8⟩;go_wp2_with(at_builtin;refine bw U rfl _ _ rfl w7.heap.size _ UB rfl (HO.out.kp k8) _ _ rfl o8.rd (by rw[bq];omega) (KR.out.trans k8).size ?_;intro v9 w9 o9 g9 _;have K9:=JE (NS (KR.out.trans k8) g9 HO.out.own_ge))
    go_roundw
    case rel=>exact⟨i+1,by omega,by go_num,by rw[Z.out];exact o9,K9.out⟩
    case measure=>simp[intOf];omega
   ·obtain rfl:i=D:=by omega
    rw[al.out] at ho;have KR:=JE l;have HR:=JE (iC _ (unB c) wr ho.rd);have lr:=fo (x:=unB c) (by have:=J.out;omega);have lu:=J.out;have lL:=aC.out;have ao:¬(i:Int)<(i:Int):=by omega
    obtain⟨av,nv,cv,rfl⟩:=qB ho.rd;have ay:=o7.kp l;clear l ho HT ak ai J al o;go_wp2_with fail;refine HR.out.mono ?_;rintro _ w8 ⟨⟨r8,rfl,o8⟩,k8⟩;have am:=ay.kp k8;go_wp2_with(at_builtin;refine bw U rfl _ _ rfl b.heap.size _ L7 rfl am _ _ rfl o8.rd (by omega) ((E.out.trans KR.out).trans k8).size ?_;intro v9 w9 o9 g9 _;have K9:=JE (NS ((E.out.trans KR.out).trans k8) g9 am.own_ge))
    go_ret;exact⟨⟨_,rfl,o9.mono aw.out.2⟩,aw.out.1.trans K9.out⟩

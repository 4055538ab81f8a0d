import Derived.Test.YthmhklmkgkfcpaaGreatDoorV18
set_option linter.all false
set_option maxHeartbeats 8000000
set_option maxRecDepth 100000
namespace Go.Proofs.YthmhklmkgkfcpaaGreatDoor
open Go.Proofs.Tryz Go.RowKit
variable {K a i j k me n:Nat}{l:List Sd}{s:List UInt8}{t:List Nod}
def srt (l:List Sd):Prop:=l.Pairwise λa b=>a.node<b.node
theorem pk:∀ (l:List Sd) (s x:Sd),x∈gF l s↔x=s\/x∈l
 | [],s,x=>by simp[gF]
 | a :: l,s,x=>by
  unfold gF
  split
  ·rw[JP]
  ·rw[JP,pk l s x,JP]
   constructor
   ·rintro (h|h|h)
    ·exact .inr (.inl h)
    ·exact .inl h
    ·exact .inr (.inr h)
   ·rintro (h|h|h)
    ·exact .inr (.inl h)
    ·exact .inl h
    ·exact .inr (.inr h)
theorem vw:∀ (l:List Sd) (s:Sd),srt l->(∀ a∈l,a.node≠s.node)->srt (gF l s)
 | [],s,_,_=>Kr _ _
 | a :: l,s,h,hn=>by
  have h1:=KN.1 h
  unfold gF
  split
  ·next hlt=>
   refine KN.2 ⟨λb hb=>?_,h⟩
   rcases JP.1 hb with e|e
   ·rw[e];exact hlt
   ·exact Int.lt_trans hlt (h1.1 b e)
  ·next hlt=>
   have hne:=hn a (by simp)
   refine KN.2 ⟨λb hb=>?_,vw l s h1.2 λb hb=>hn b (by simp[hb])⟩
   rcases (pk l s b).1 hb with e|e
   ·rw[e];omega
   ·exact h1.1 b e
theorem pl:∀ (l:List Sd),srt l->∀ s∈l,ba l s.node=s.seed
 | [],_,s,h=>by cases h
 | a :: l,hs,s,h=>by
  have h1:=KN.1 hs
  unfold ba
  rcases JP.1 h with e|e
  ·rw[e,if_pos rfl]
  ·have:=h1.1 s e
   rw[if_neg (by omega)]
   exact pl l h1.2 s e
theorem mR:∀ (xs:List Nat) (own:List Sd) (s:List UInt8) (x:Sd),x∈dH own s xs↔x∈own\/∃ a,a<xs.length/\x=⟨((xs.getD a 0:Nat):Int),bf s a⟩
 | [],own,s,x=>by
  show x∈own↔_
  exact⟨λh=>.inl h,λh=>by
   rcases h with h|⟨a,ha,_⟩
   ·exact h
   ·exact absurd ha (Kd _)⟩
 | y :: xs,own,s,x=>by
  show x∈dH (gF own ⟨(y:Int),bQ s fC⟩) (bQ s fU) xs↔_
  rw[mR xs,pk]
  have hs:∀ a,bf (bQ s fU) a=bf s (a+1):=λa=>by
   unfold bf
   congr 1
   have:=jn s 1 a
   rw[LA] at this
   exact this.symm
  constructor
  ·rintro ((h|h)|⟨a,ha,h⟩)
   ·exact .inr ⟨0,by simp,h⟩
   ·exact .inl h
   ·exact .inr ⟨a+1,by simpa using ha,by rw[h,hs];rfl⟩
  ·rintro (h|⟨a,ha,h⟩)
   ·exact .inl (.inr h)
   ·cases a with
    | zero=>exact .inl (.inl h)
    | succ a=>exact .inr ⟨a,by simpa using ha,by rw[h,hs];rfl⟩
theorem rm:∀ (xs:List Nat) (own:List Sd) (s:List UInt8),xs.Nodup->srt own->(∀ a∈own,∀ x∈xs,a.node≠(x:Int))->srt (dH own s xs)
 | [],own,s,_,h,_=>h
 | y :: xs,own,s,hn,h,hd=>by
  have h1:=LT.1 hn
  refine rm xs _ _ h1.2 (vw own _ h λa ha=>hd a ha y (by simp)) λa ha x hx=>?_
  rcases (pk _ _ _).1 ha with e|e
  ·rw[e]
   intro e2
   have:y=x:=Int.ofNat.inj e2
   subst this
   exact h1.1 hx
  ·exact hd a e x (by simp[hx])
theorem mS (h:k<l.length):aK l k∈l:=by
 unfold aK;rw[Iw,Iy h];exact Jg h
theorem fG (h:k<l.length):aK l k=l[k]:=by
 unfold aK;rw[Iw,Iy h];rfl
theorem kY {me:Int}{own:List Sd}:bL t K me own ↔
  bd t me/\srt own/\(∀ s∈own,(s.node=2*me\/∃ x∈aC K 0 me.toNat,(x:Int)=s.node/\(ats t x).kind=2)/\s.seed.length=32/\aG s.seed=(ats t s.node.toNat).pub) /\
  (∀ x∈aC K 0 me.toNat,(ats t x).kind=2->me∉(ats t x).un->∃ s∈own,s.node=(x:Int))/\∃ s∈own,s.node=2*me:=by
 constructor
 ·rintro⟨u,g,j,r⟩
  have y:∀ s∈own,(s.node=2*me\/∃ x∈aC K 0 me.toNat,(x:Int)=s.node/\(ats t x).kind=2)/\s.seed.length=32/\aG s.seed=(ats t s.node.toNat).pub:=λs c=>by
   obtain⟨k,f,rfl⟩:=Jr c;have:=g k f;rw[fG f] at this;exact⟨this.1,this.2.1,this.2.2.1⟩
  have h:∀ d a,a+d+1<own.length->(aK own a).node<(aK own (a+d+1)).node:=λd=>by
   induction d with
   | zero=>exact λa i=>by have:=(g (a+0+1) i).2.2.2 (by omega);rwa [show a+0+1 - 1=a by omega] at this
   | succ d ih=>
    intro a i;have v:=ih a (by omega);have l:=(g (a+(d+1)+1) i).2.2.2 (by omega);rw[show a+(d+1)+1 - 1=a+d+1 by omega] at l;exact Int.lt_trans v l
  refine⟨u,Jv.2 λa b i z A=>?_,y,λx o q p=>?_,?_⟩
  ·have:=h (b - a - 1) a (by omega)
   rw[show a+(b - a - 1)+1=b by omega,fG i,fG z] at this;exact this
  ·obtain⟨k,n,m,_⟩:=mN own _ (j x o q p)
   exact⟨_,mS n,m⟩
  ·obtain⟨k,n,m,_⟩:=mN own _ r
   exact⟨_,mS n,m⟩
 ·rintro⟨u,g,j,r,q⟩
  have w:∀ s∈own,(ba own s.node).length≠0:=λs c=>by
   rw[pl own g s c,(j s c).2.1];decide
  refine⟨u,λk f=>?_,λx o p B=>?_,?_⟩
  ·obtain⟨v,l,C⟩:=j _ (mS f)
   refine⟨v,l,C,λD=>?_⟩;rw[fG f,fG (show k - 1<own.length by omega)];exact Jv.1 g (k - 1) k (by omega) f (by omega)
  ·obtain⟨s,c,e⟩:=r x o p B
   rw[<-e];exact w s c
  ·obtain⟨s,c,e⟩:=q
   rw[<-e];exact w s c
theorem vC (seed secret info:List UInt8)(b:a<(aw t i K).length):(am (aQ t K i seed secret info).step a).pub=aG (bf secret a):=
 mG t secret info _ _ _ a (by have:=dR t i K;omega)
theorem CZ {seed secret:List UInt8}(info:List UInt8)(k:az t K)(m:bq t K)(l:(ats t (2*i)).kind=1)(n:seed.length=32)(r:secret.length=32):
  bL (du t (i:Int) (aw t i K) (aQ t K i seed secret info)) K (i:Int) (dH [⟨2*(i:Int),seed⟩] secret (aw t i K)):=by
 obtain⟨p,w,v,u,j,h,o⟩:=vr k m l (aQ t K i seed secret info) (fT seed) (λa b=>by rw[vC seed secret info b];exact fT _);rw[kY,IM];have q:(2*(i:Int)).toNat=2*i:=by omega
 have d:∀ x∈aw t i K,x % 2=1:=λx c=>eO (dQ c)
 refine⟨(p.there_iff i).2 j.1,rm _ _ _ (jq t i K) (Kr _ _) (λa b x c=>?_),λs e=>?_,λx c g _=>?_,?_⟩
 ·simp at b
  rw[b];have:=d x c;show 2*(i:Int)≠(x:Int)
  omega
 ·rcases (mR _ _ _ _).1 e with e|⟨a,b,rfl⟩
  ·simp at e
   subst e;refine⟨.inl rfl,n,?_⟩;show aG seed=_
   rw[q,j.2.2.1];rfl
  ·have f:(aw t i K).getD a 0∈aw t i K:=by rw[Iw,Iy b];exact Jg b
   refine⟨.inr ⟨_,dQ f,rfl,(h a b).1⟩,jM _ _,?_⟩;show aG (bf secret a)=_
   rw[IM,(h a b).2.2.1];exact(vC seed secret info b).symm
 ·by_cases f:x∈aw t i K
  ·obtain⟨a,b,rfl⟩:=Jr f
   refine⟨_,(mR _ _ _ _).2 (.inr ⟨a,b,rfl⟩),?_⟩;rw[Iw,Iy b];rfl
  ·have:=(o x c f).1
   rw[this] at g;cases g
 ·exact⟨⟨2*(i:Int),seed⟩,(mR _ _ _ _).2 (.inl (JR.2 rfl)),rfl⟩
theorem Da {own:List Sd}{seed secret:List UInt8}(info:List UInt8)(p:Pa)(c:az t K)(g:(ats t (2*i)).kind=1)(d:i≠me)(n:bL t K (me:Int) own)(N:secret.length=32)
  (G:p.pub.length=32) (H:p.step.length=(ixS t i K).length) (w:∀ a,a<(ixS t i K).length->(am p.step a).fors=(am (aQ t K i seed secret info).step a).fors/\(am p.step a).pub.length=32)
  (J:kM t i me<=k) (I:k<(ixS t i K).length) (b:(am p.step k).pub≠aG (bf secret k)):
  cH t K (i:Int) (me:Int) own info p=5/\cO t K (i:Int) (me:Int) own info p=dI:=by
 have f:=(c.there_iff me).1 n.1;have u:=c.len2;have v:i<2 ^ K:=by have:=az.lt_of (t:=t) (x:=2*i) (by rw[g];decide);omega
 have s:me<2 ^ K:=by have:=az.lt_of (t:=t) (x:=2*me) (by rw[f];decide);omega
 obtain⟨D,C,_,_⟩:=jP c.le v s d;obtain⟨y,r,l⟩:=mO c v f s d n;obtain⟨F,_,E,_⟩:=mQ (K:=K) ⟨D,C⟩ (Lg r);have m:=(dR t i K).2;have o:=ir t K i seed secret info;have M:dS t K i me own info p=(aV secret (kM t i me),0):=by
  unfold dS;obtain⟨n',e⟩:=mP t secret info (aT t i K) secret 0 (kM t i me) (by omega);have Q:(am p.step (kM t i me)).fors=cA t secret info (aV secret (kM t i me)) n' ((aT t i K).getD (kM t i me) []):=((w _ F).1).trans e;rw[Q,E];refine qY (iq N _) _ _ (λz U j=>?_) ⟨y,r,l⟩;obtain⟨a,T,S,R⟩:=mN own z j;obtain⟨_,B,q,_⟩:=n.2.1 a T;rw[R] at B q;rw[S] at q;exact⟨B,q⟩
 have A:cH t K (i:Int) (me:Int) own info p=5:=by
  unfold cH;rw[if_neg (by rw[JN];exact(c.there_iff i).2 g),if_neg (by omega),IM,IM,if_neg,M,if_neg (by simp),if_neg]
  ·intro h
   have:=h (k - kM t i me) (by omega);unfold bf at this b;rw[<-jn,show kM t i me+(k - kM t i me)=k by omega] at this;exact b this.symm
  ·rw[JN]
   refine⟨by rw[H,m],G,λa L=>?_⟩;obtain⟨P,O⟩:=w a (by omega);rw[P];exact⟨(o.2.2 a L).1,O⟩
 refine⟨A,?_⟩;unfold cO;rw[if_neg (by rw[A];decide)]
theorem Db {own:List Sd}(info:List UInt8)(p:Pa)(c:az t K)(a:(ats t (2*i)).kind=1)(d:i≠me)(e:p.step.length≠(ixS t i K).length):
  cH t K (i:Int) (me:Int) own info p=2/\cO t K (i:Int) (me:Int) own info p=dI:=by
 have b:cH t K (i:Int) (me:Int) own info p=2:=by
  unfold cH;rw[if_neg (by rw[JN];exact(c.there_iff i).2 a),if_neg (by omega),IM,if_pos λh=>e (by rw[h.1,(dR t i K).2])]
 refine⟨b,?_⟩;unfold cO;rw[if_neg (by rw[b];decide)]
theorem Dc {own:List Sd}(c:az t K)(d:(ats t (2*i)).kind=1)(a:i≠me)(e:bL t K (me:Int) own):0<(aw t i K).length:=by
 have b:=(c.there_iff me).1 e.1;have g:=c.len2;have h:i<2 ^ K:=by have:=az.lt_of (t:=t) (x:=2*i) (by rw[d];decide);omega
 have f:me<2 ^ K:=by have:=az.lt_of (t:=t) (x:=2*me) (by rw[b];decide);omega
 obtain⟨k,j,_,_⟩:=jP c.le h f a;obtain⟨y,l,_⟩:=mO c h b f a e;obtain⟨m,_⟩:=mQ (K:=K) ⟨k,j⟩ (Lg l);have:=(dR t i K).1;omega
theorem vE:∀ (l:List Sd) (s:Sd),(gF l s).length=l.length+1
 | [],s=>rfl
 | a :: l,s=>by
  unfold gF
  split
  ·rfl
  ·rw[Jf,vE l s,Jf]
theorem vG:∀ (xs:List Nat) (own:List Sd) (s:List UInt8),(dH own s xs).length=own.length+xs.length
 | [],own,s=>rfl
 | y :: xs,own,s=>by
  show(dH (gF own _) _ xs).length=_
  rw[vG xs,vE,Jf]
  omega
theorem Dd (seed secret info:List UInt8)(c:a<(ixS t i K).length):
  ∃ k,k<K/\0<(bX t i k).length/\(ixS t i K).getD a 0=k/\(aw t i K).getD a 0=nd (k+1) (i / 2 ^ (k+1))/\(aT t i K).getD a []=bX t i k/\(am (aQ t K i seed secret info).step a).fors.length=(bX t i k).length:=by
 have b:=Iy c;obtain⟨f,e⟩:=(kX t i K _).1 (Jg c);have d:(aT t i K).getD a []=bX t i (ixS t i K)[a]:=by
  unfold aT;rw[Iw,Jt,b];rfl
 refine⟨_,f,e,by rw[Iw,b];rfl,?_,d,?_⟩
 ·unfold aw
  rw[Iw,Jt,b];rfl
 ·rw[((ir t K i seed secret info).2.2 a (by rw[(dR t i K).2];exact c)).1,d]
theorem De {m:List Sd}(c:srt l)(d:srt m)(h:∀ s,s∈l↔s∈m):l=m:=by
 have nd:∀ {l:List Sd},srt l->l.Nodup:=λ{l} c=>c.imp λ{a b} g e=>by subst e;omega
 have f:l.Perm m:=(List.perm_ext_iff_of_nodup (nd c) (nd d)).2 h;have k:l.Pairwise λa b=>a.node<b.node:=c
 have j:m.Pairwise λa b=>a.node<b.node:=d
 exact List.Perm.eq_of_pairwise (le:=λa b:Sd=>a.node<b.node) (λa b _ _ i n=>absurd i (by omega)) k j f
def dB (s:List UInt8)(n:Nat):List (List UInt8):=(List.range n).map (aV s)
theorem jr (s:List UInt8)(n:Nat):(dB s n).length=n:=by unfold dB;simp
theorem Df (s:List UInt8)(n:Nat):dB s (n+1)=dB s n++[aV s n]:=by
 unfold dB;rw[List.range_succ,JZ];rfl
theorem ru (s:List UInt8)(h:k<n):(dB s n).getD k []=aV s k:=by
 unfold dB;rw[Iw,Jt,Lc h];rfl
theorem Dg (s:List UInt8){m:Nat}(h:m<=n):(dB s n).take m=dB s m:=by
 unfold dB;rw[<-List.map_take,List.take_range,LV h]
theorem Dh (e:K<=10)(c:i<2 ^ K)(b:me<2 ^ K):me / 2 ^ j=i / 2 ^ j↔bw i me<=j:=by
 obtain⟨k,g,f⟩:=nM e c b;constructor
 ·intro h
  exact Mg λa=>f j a h.symm
 ·intro h
  obtain⟨d,rfl⟩:=Nat.exists_eq_add_of_le h;rw[Nat.pow_add,<-JS,<-JS,g]
theorem Di (l:K<=10)(j:i<2 ^ K)(g:me<2 ^ K)(c:i≠me)(n:0<(bX t i (bw i me - 1)).length)(b:(ixS t i K)[a]?=some k):
  me / 2 ^ (k+1)=i / 2 ^ (k+1)↔kM t i me<=a:=by
 obtain⟨q,p,_,_⟩:=jP l j g c;rw[Dh l j g];obtain⟨rest,e⟩:=rk t i _ n K (by omega);unfold kM;constructor
 ·intro h
  refine Mg λd=>?_
  rw[e,Jh d] at b;have:=oW t i _ k (JT b);omega
 ·intro h
  rw[e,Jd h] at b;have f:=oX t i K;rw[e] at f;have o:=(List.pairwise_append.1 f).2.1;rcases JP.1 (JT b) with m|m
  ·omega
  ·have:=(KN.1 o).1 k m
   omega
theorem Dj {own:List Sd}{xs:List Nat}(c:xs.Nodup)(h:srt own)(e:∀ a∈own,∀ x∈xs,a.node≠(x:Int)){r:List Sd}(b:srt r)
  (d:∀ y,y∈r↔y∈own\/∃ a,a<xs.length/\y=⟨((xs.getD a 0:Nat):Int),bf s a⟩):r=dH own s xs:=
 De b (rm xs own s c h e) λy=>by rw[d,mR]
def fc (t:List Nod)(own:List Sd)(x:Nat):Prop:=∃ s∈own,s.node=(x:Int)/\s.seed.length=32/\aG s.seed=(ats t x).pub
def rx (t:List Nod)(me:Int)(x:Nat):Prop:=(ats t x).kind≠0/\me∉(ats t x).un
def bI (K me:Nat):List Nat:=aC K 0 me++[2*me]
theorem Dk (K me:Nat):(bI K me).Nodup:=by
 unfold bI;refine List.nodup_append.2 ⟨qf K me,by simp,λa d b c e=>?_⟩;simp at c;subst c;have:=eO d;omega
theorem Dl {own:List Sd}(h:srt own):(own.map (·.node)).Nodup:=LC.2 (h.imp λ{a b} c=>by omega)
theorem vH {own:List Sd}(h:srt own){a b:Sd}(d:a∈own)(c:b∈own)(e:a.node=b.node):a=b:=by
 have f:=pl own h a d;have g:=pl own h b c;rw[e] at f;cases a;cases b;simp_all
theorem vI:∀ (A B:List Int),A.Nodup->(∀ x∈A,x∈B)->B.length<=A.length->A.Perm B
 | [],B,_,_,h=>by rw[IX (Nat.le_zero.1 h)]
 | a :: A,B,hn,hs,hl=>by
  obtain⟨s,t,rfl⟩:=List.append_of_mem (hs a (by simp))
  have h1:=LT.1 hn
  have ih:=vI A (s++t) h1.2 (λx hx=>by
   have:=hs x (by simp[hx])
   rcases Jy.1 this with h|h
   ·exact Jy.2 (.inl h)
   ·rcases JP.1 h with e|e
    ·subst e;exact absurd hx h1.1
    ·exact Jy.2 (.inr e)) (by simp at hl ⊢;omega)
  exact(ih.cons a).trans List.perm_middle.symm
open Classical in
theorem Dm {own:List Sd}(p:az t K)(m:bd t (me:Int))(u:srt own):
  bL t K (me:Int) own↔(∀ x∈bI K me,fc t own x\/¬rx t (me:Int) x)/\((bI K me).filter λx=>decide (fc t own x)).length=own.length:=by
 have w:=(p.there_iff me).1 m;have l:∀ a b:Nat,(a:Int)=(b:Int)->a=b:=λa b h=>by omega
 have n:(((bI K me).filter λx=>decide (fc t own x)).map λx:Nat=>(x:Int)).Nodup:=LC.2 (((Dk K me).sublist List.filter_sublist).imp λ{a b} A e=>A (l _ _ e));have B:=Dl u;have j:∀ z,z∈((bI K me).filter λx=>decide (fc t own x)).map (λx:Nat=>(x:Int))->z∈own.map (·.node):=λz r=>by
  obtain⟨x,d,rfl⟩:=Ju.1 r;obtain⟨s,k,C,_⟩:=JU (LU.1 d).2;exact Ju.2 ⟨s,k,C⟩
 rw[kY,IM];constructor
 ·rintro⟨_,_,I,H,G⟩
  have f:∀ s∈own,∃ x∈bI K me,(x:Int)=s.node/\fc t own x:=λs h=>by
   obtain⟨a,b,c⟩:=I s h;rcases a with a|⟨x,g,i,o⟩
   ·refine⟨2*me,by unfold bI;simp,by rw[a];omega,s,h,by rw[a];omega,b,?_⟩
    rw[c,a];congr 2
   ·refine⟨x,by unfold bI;simp[g],i,s,h,i.symm,b,?_⟩
    rw[c,<-i,IM]
  refine⟨λx d=>?_,?_⟩
  ·rw[Classical.or_iff_not_imp_right,JN]
   rintro⟨D,O⟩;have:∃ s∈own,s.node=(x:Int):=by
    unfold bI at d;rcases Jy.1 d with d|d
    ·refine H x d ?_ O
     rcases p.odd (eO d) with e|⟨e,_⟩
     ·rw[e] at D;exact absurd rfl D
     ·exact e
    ·simp at d
     subst d;obtain⟨s,a,b⟩:=G;exact⟨s,a,by rw[b];omega⟩
   obtain⟨s,a,b⟩:=this;obtain⟨y,T,F,E⟩:=f s a;have:y=x:=l _ _ (by rw[F,b]);exact this▸E
  ·have v:(((bI K me).filter λx=>decide (fc t own x)).map λx:Nat=>(x:Int)).Perm (own.map (·.node)):=by
    refine(List.perm_ext_iff_of_nodup n B).2 λz=>⟨j z,λr=>?_⟩
    obtain⟨s,k,rfl⟩:=Ju.1 r;obtain⟨x,g,i,o⟩:=f s k;exact Ju.2 ⟨x,LU.2 ⟨g,IY o⟩,i⟩
   have:=v.length_eq;simpa using this
 ·rintro⟨k,C⟩
  have v:(((bI K me).filter λx=>decide (fc t own x)).map λx:Nat=>(x:Int)).Perm (own.map (·.node)):=
   vI _ _ n j (by simp[C])
  have f:∀ s∈own,∃ x∈bI K me,(x:Int)=s.node/\s.seed.length=32/\aG s.seed=(ats t x).pub:=λs h=>by
   have:=v.symm.subset (Ju.2 ⟨s,h,rfl⟩);obtain⟨x,d,e⟩:=Ju.1 this;obtain⟨Q,P⟩:=LU.1 d;obtain⟨J,N,M,L⟩:=JU P;have:J=s:=vH u N h (by rw[M,e]);exact⟨x,Q,e,this▸L⟩
  refine⟨m,u,λs h=>?_,λx d S R=>?_,?_⟩
  ·obtain⟨x,g,i,o,q⟩:=f s h
   refine⟨?_,o,by rw[q,<-i,IM]⟩;unfold bI at g;rcases Jy.1 g with g|g
   ·refine .inr ⟨x,g,i,?_⟩
    rcases p.odd (eO g) with e|⟨e,_⟩
    ·rw[e] at q
     have:=congrArg List.length q;rw[fT] at this;cases this
    ·exact e
   ·simp at g
    exact .inl (by rw[<-i,g];omega)
  ·rcases k x (by unfold bI;simp[d]) with⟨s,a,b,_⟩|h
   ·exact⟨s,a,b⟩
   ·exact absurd ⟨by rw[S];decide,R⟩ h
  ·rcases k (2*me) (by unfold bI;simp) with⟨s,a,b,_⟩|h
   ·exact⟨s,a,by rw[b];omega⟩
   ·refine absurd ⟨by rw[w];decide,?_⟩ h
    rcases p.even me with e|⟨_,e,_⟩
    ·rw[e];simp[aY]
    ·rw[e];simp
theorem Dn {me:Int}{own:List Sd}(h:bL t K me own):srt own:=(kY.1 h).2.1
theorem vK (u v:Value)(l m:List Int)(w:World)(z:RI w u l)(y:RI w v m):
  Calls prog 15 #[u,v] w λe w'=>e=.returned (.bool (decide (l=m)))/\Kp w w':=by
 obtain⟨Z,V,rfl,p1,J⟩:=z.shape;obtain⟨W,U,rfl,p2,I⟩:=y.shape;unfold maxLen at J I;by_cases a:l.length=m.length
 ·have p:Hid (∀ k,k<l.length->l.getD k 0≠m.getD k 0->decide (l=m)=false):=λk L q=>IS (λh=>q (by rw[h]))
  have d:Hid ((∀ k,k<l.length->l.getD k 0=m.getD k 0)->decide (l=m)=true):=λh=>by
   refine IY (LI a λk C G=>?_);have:=h k C;rwa [Iw,Iy C,Iw,Iy G] at this
  generalize decide (l=m)=b at *;have H:=Lib.hid z;have D:=Lib.hid y;rw[<-a] at D p2 ⊢;obtain⟨N,F⟩:∃ N,l.length=N:=⟨_,rfl⟩;rw[F] at H D p1 p2 p d ⊢;clear z y a F;go_enter func15,ntmps15;go_wp2_with fail;go_loopw[5] (λi wr=>∃ k:Nat,k<=N/\i=.int .i64 (k:Int)/\(∀ t,t<k->l.getD t 0=m.getD t 0)/\Kp w wr) (λi _=>(N - (intOf i).toNat))
  case atStart=>exact⟨0,IO _,rfl,λt h=>by omega,Kp.refl _⟩
  case round=>
   obtain⟨k,L,rfl,c,f⟩:=hrel;by_cases g:k<N
   ·obtain⟨T,Q,rfl,_,x⟩:=H.out.at k g
    obtain⟨S,P,rfl,_,s⟩:=D.out.at k g;have C:=f.cell (x k g);have G:=f.cell (s k g);have n:=p.out k g;have j:Hid (l.getD k 0=m.getD k 0->∀ t,t<k+1->l.getD t 0=m.getD t 0):=λM t K=>by
     rcases Jc (Jn.1 K) with B|B
     ·exact c t B
     ·rw[B];exact M
    have R:IntKind.i64.wrap ((k:Int)+1)=(k:Int)+1:=IA _ (by omega);have A:=Lib.hid f;clear x s d p c f;generalize l.getD k 0=X at *;generalize m.getD k 0=Y at *;by_cases o:X=Y
    ·have O:=Lib.hid (j.out o)
     subst o;clear n j;go_wp2_with fail;go_region
     go_wp2_with fail;go_roundw
     case rel=>exact⟨k+1,by omega,by go_num,O.out,A.out.drew⟩
     case measure=>simp[intOf];omega
    ·have E:=Lib.hid (n o)
     have r:(X==Y)=false:=ID.2 o;clear n j;go_wp2_with fail;go_region
     go_wp2_with fail;go_ret;exact⟨by rw[E.out] <;> rfl,A.out.drew⟩
   ·obtain rfl:k=N:=by omega
    have E:=Lib.hid (d.out c);have A:=Lib.hid f;clear d p c f;go_wp2_with fail;go_ret;exact⟨by rw[E.out] <;> rfl,A.out⟩
 ·have e:decide (l=m)=false:=IS (λh=>a (by rw[h]))
  have q:¬(l.length:Int)=(m.length:Int):=by omega
  have r:((l.length:Int)==(m.length:Int))=false:=ID.2 q;rw[e];clear z y e a;go_enter func15,ntmps15;go_wp2_with fail;go_ret;exact⟨rfl,Kp.refl _⟩
theorem Du (u:Value)(l:List Int)(n:Int)(w:World)(r:RI w u l):
  Calls prog 49 #[u,.int .i64 n] w λe w'=>e=.returned (.bool (decide (n∈l)))/\w=w':=by
 obtain⟨J,I,rfl,p1,A⟩:=r.shape;unfold maxLen at A;have c:Hid (∀ k,k<l.length->l.getD k 0=n->decide (n∈l)=true):=λk o q=>by
  rw[Iw,Iy o] at q;exact IY (by rw[<-q];exact Jg o)
 have g:Hid ((∀ k,k<l.length->l.getD k 0≠n)->decide (n∈l)=false):=λh=>by
  refine IS λC=>?_
  obtain⟨k,o,e⟩:=Jr C;refine h k o ?_;rw[Iw,Iy o];exact e
 generalize decide (n∈l)=b at *;have z:=Lib.hid r;obtain⟨N,y⟩:∃ N,l.length=N:=⟨_,rfl⟩;rw[y] at z p1 c g ⊢;clear r y;go_enter func49,ntmps49;go_wp2_with fail;go_loop [5] (λi=>∃ k:Nat,k<=N/\i=.int .i64 (k:Int)/\(∀ t,t<k->l.getD t 0≠n)) (λi=>(N - (intOf i).toNat))
 case atStart=>exact⟨0,IO _,rfl,λt h=>by omega⟩
 case round=>
  obtain⟨k,o,rfl,a⟩:=hrel;by_cases j:k<N
  ·obtain⟨H,E,rfl,_,p⟩:=z.out.at k j
   have G:=p k j;have m:=c.out k j;have d:Hid (l.getD k 0≠n->∀ t,t<k+1->l.getD t 0≠n):=λq t B=>by
    rcases Jc (Jn.1 B) with s|s
    ·exact a t s
    ·rw[s];exact q
   have F:IntKind.i64.wrap ((k:Int)+1)=(k:Int)+1:=IA _ (by omega);clear p c g a;generalize l.getD k 0=X at *;by_cases f:X=n
   ·have v:=Lib.hid (m f)
    subst f;clear m d;go_wp2_with fail;go_ret;exact⟨by rw[v.out] <;> rfl,rfl⟩
   ·have D:=Lib.hid (d.out f)
    have x:(X==n)=false:=ID.2 f;clear m d;go_wp2_with fail;go_round
    case rel=>exact⟨k+1,by omega,by go_num,D.out⟩
    case measure=>simp[intOf];omega
  ·obtain rfl:k=N:=by omega
   have v:=Lib.hid (g.out a);clear c g a;go_wp2_with fail;go_ret;exact⟨by rw[v.out] <;> rfl,rfl⟩
theorem Dv (u v:Value)(a b:Nod)(w:World)(hu:NV w u a)(hv:NV w v b):
  Calls prog 77 #[u,v] w λe w'=>aL e (a=b)/\Kp w w':=by
 obtain⟨p1,u1,h1,rfl,N⟩:=hu;obtain⟨p2,u2,h2,rfl,M⟩:=hv;have T:=Lib.hid (λW (D:Kp w W)=>vK u1 u2 a.un b.un W (N.un.kp D) (M.un.kp D));have HP:=Lib.hid (λW (D:Kp w W)=>lR p1 p2 a.pub b.pub W (N.pub.kp D) (M.pub.kp D));have HH:=Lib.hid (λW (D:Kp w W)=>lR h1 h2 a.hash b.hash W (N.hash.kp D) (M.hash.kp D));have HB:=Lib.hid (Nod.eq_iff a b);obtain⟨f,i,k,rfl⟩:=aA N.pub;obtain⟨n,r,x,rfl⟩:=N.un.sl;obtain⟨g,j,l,rfl⟩:=aA N.hash;obtain⟨o,s,y,rfl⟩:=aA M.pub;obtain⟨H,I,K,rfl⟩:=M.un.sl;obtain⟨q,t,z,rfl⟩:=aA M.hash;obtain⟨B,A,ab,Z,ae⟩:=a;obtain⟨F,E,aa,Y,ad⟩:=b;simp only[bV] at T HP HH HB ⊢;generalize ((⟨B,A,ab,Z,ae⟩:Nod)=⟨F,E,aa,Y,ad⟩)=X at *;have J:∀ (b:Bool) (p:Prop) [Decidable p],decide p=b->(p↔b=true):=λb p _ h=>by rw[<-h];simp
 obtain⟨bu,O⟩:∃ bu,decide (Z=Y)=bu:=⟨_,rfl⟩;obtain⟨bp,P⟩:∃ bp,decide (ab=aa)=bp:=⟨_,rfl⟩;obtain⟨U,Q⟩:∃ U,decide (ae=ad)=U:=⟨_,rfl⟩;rw[O] at T;rw[P] at HP;rw[Q] at HH;have d:Hid (X↔B=F/\A=E/\bp=true/\bu=true/\U=true):=by
  rw[<-J bp _ P,<-J bu _ O,<-J U _ Q];exact HB.out
 clear N M HB J O P Q;have G:Hid (Kp w ((w.alloc (.cells #[.int .i64 B,.int .i64 A,.slice f i k,.slice n r x,.slice g j l] 81)).alloc (.cells #[.int .i64 F,.int .i64 E,.slice o s y,.slice H I K,.slice q t z] 81))):=((Kp.refl w).alloc _).alloc _;cases bu
 ·have S:Hid (¬X):=λe=>by have:=(d.out.1 e).2.2.2.1;cases this
  clear d;go_enter func77,ntmps77;go_wp2_with fail;refine(T.out _ G.out).mono ?_;rintro _ L ⟨rfl,c⟩;have C:=Lib.hid (G.out.trans c);clear c;go_wp2_with fail;go_ret;exact⟨aL.no S.out,C.out⟩
 ·have HC:∀ W,Bx W w.heap.size 81 #[.int .i64 B,.int .i64 A,.slice f i k,.slice n r x,.slice g j l]->Bx W (w.heap.size+1) 81 #[.int .i64 F,.int .i64 E,.slice o s y,.slice H I K,.slice q t z] ->
    (W.cell? ⟨w.heap.size,0,none⟩=some (.int .i64 B)/\W.cell? ⟨w.heap.size,1,none⟩=some (.int .i64 A)/\W.cell? ⟨w.heap.size,2,none⟩=some (.slice f i k)/\W.cell? ⟨w.heap.size,4,none⟩=some (.slice g j l)) /\
    (W.cell? ⟨w.heap.size+1,0,none⟩=some (.int .i64 F)/\W.cell? ⟨w.heap.size+1,1,none⟩=some (.int .i64 E)/\W.cell? ⟨w.heap.size+1,2,none⟩=some (.slice o s y)/\W.cell? ⟨w.heap.size+1,4,none⟩=some (.slice q t z)):=
   λW V R=>⟨⟨V.cell 0,V.cell 1,V.cell 2,V.cell 4⟩,⟨R.cell 0,R.cell 1,R.cell 2,R.cell 4⟩⟩
  have m:Hid (∀ W,Kp ((w.alloc (.cells #[.int .i64 B,.int .i64 A,.slice f i k,.slice n r x,.slice g j l] 81)).alloc (.cells #[.int .i64 F,.int .i64 E,.slice o s y,.slice H I K,.slice q t z] 81)) W ->
    (W.cell? ⟨w.heap.size,0,none⟩=some (.int .i64 B)/\W.cell? ⟨w.heap.size,1,none⟩=some (.int .i64 A)/\W.cell? ⟨w.heap.size,2,none⟩=some (.slice f i k)/\W.cell? ⟨w.heap.size,4,none⟩=some (.slice g j l)) /\
    (W.cell? ⟨w.heap.size+1,0,none⟩=some (.int .i64 F)/\W.cell? ⟨w.heap.size+1,1,none⟩=some (.int .i64 E)/\W.cell? ⟨w.heap.size+1,2,none⟩=some (.slice o s y)/\W.cell? ⟨w.heap.size+1,4,none⟩=some (.slice q t z))):=λW D=>by
   have V:=(Bx.new w 81 #[.int .i64 B,.int .i64 A,.slice f i k,.slice n r x,.slice g j l]).kp (((Kp.refl _).alloc _).trans D);have R:=Bx.new (w.alloc (.cells #[.int .i64 B,.int .i64 A,.slice f i k,.slice n r x,.slice g j l] 81)) 81 #[.int .i64 F,.int .i64 E,.slice o s y,.slice H I K,.slice q t z];have e:(w.alloc (.cells #[.int .i64 B,.int .i64 A,.slice f i k,.slice n r x,.slice g j l] 81)).heap.size=w.heap.size+1:=by simp
   rw[e] at R;exact HC W V (R.kp D)
  clear HC;by_cases hk:B=F
  ·by_cases hn:A=E
   ·subst hk
    subst hn;cases bp
    ·have S:Hid (¬X):=λe=>by have:=(d.out.1 e).2.2.1;cases this
     clear d;go_enter func77,ntmps77;go_wp2_with fail;refine(T.out _ G.out).mono ?_;rintro _ L ⟨rfl,c⟩;obtain⟨⟨d1,d2,d3,d4⟩,⟨f1,f2,f3,f4⟩⟩:=m.out L c;have C:=Lib.hid (G.out.trans c);clear c m;go_wp2_with fail;refine(HP.out _ C.out).mono ?_;rintro _ _ ⟨rfl,rfl⟩;go_wp2_with fail;go_ret;exact⟨aL.no S.out,C.out⟩
    ·have af:Hid (X↔U=true):=⟨λe=>(d.out.1 e).2.2.2.2,λe=>d.out.2 ⟨rfl,rfl,rfl,rfl,e⟩⟩
     clear d;go_enter func77,ntmps77;go_wp2_with fail;refine(T.out _ G.out).mono ?_;rintro _ L ⟨rfl,c⟩;obtain⟨⟨d1,d2,d3,d4⟩,⟨f1,f2,f3,f4⟩⟩:=m.out L c;have C:=Lib.hid (G.out.trans c);clear c m;go_wp2_with fail;refine(HP.out _ C.out).mono ?_;rintro _ _ ⟨rfl,rfl⟩;go_wp2_with fail;refine(HH.out _ C.out).mono ?_;rintro _ _ ⟨rfl,rfl⟩;go_wp2_with fail;go_ret;exact⟨⟨U,rfl,af.out.symm⟩,C.out⟩
   ·have S:Hid (¬X):=λe=>hn (d.out.1 e).2.1
    have ag:(A==E)=false:=ID.2 hn;subst hk;clear d;go_enter func77,ntmps77;go_wp2_with fail;refine(T.out _ G.out).mono ?_;rintro _ L ⟨rfl,c⟩;obtain⟨⟨d1,d2,d3,d4⟩,⟨f1,f2,f3,f4⟩⟩:=m.out L c;have C:=Lib.hid (G.out.trans c);clear c m;go_wp2_with fail;go_ret;exact⟨aL.no S.out,C.out⟩
  ·have S:Hid (¬X):=λe=>hk (d.out.1 e).1
   have ah:(B==F)=false:=ID.2 hk;clear d;go_enter func77,ntmps77;go_wp2_with fail;refine(T.out _ G.out).mono ?_;rintro _ L ⟨rfl,c⟩;obtain⟨⟨d1,d2,d3,d4⟩,⟨f1,f2,f3,f4⟩⟩:=m.out L c;have C:=Lib.hid (G.out.trans c);clear c m;go_wp2_with fail;go_ret;exact⟨aL.no S.out,C.out⟩
theorem Dw (u v:Value)(t s:List Nod)(w:World)(C:NL w u t)(B:NL w v s):
  Calls prog 28 #[u,v] w λe w'=>aL e (t=s)/\Kp w w':=by
 obtain⟨a1,c1,rfl,p1,s1⟩:=C.shape;obtain⟨a2,c2,rfl,p2,s2⟩:=B.shape;unfold maxLen at s1 s2;by_cases c:t.length=s.length
 ·have q:Hid (∀ k,k<t.length->¬ats t k=ats s k->¬t=s):=λk hk r h=>r (by rw[h])
  have f:Hid ((∀ k,k<t.length->ats t k=ats s k)->t=s):=λh=>sX c λx=>by
   by_cases hx:x<t.length
   ·exact h x hx
   ·rw[iW (by omega),iW (by omega)]
  have A:=Lib.hid (fun(a b:Nod) u v W (h1:NV W u a) (h2:NV W v b)=>Dv u v a b W h1 h2);have R:=Lib.hid C;have K:=Lib.hid B;rw[<-c] at K p2 ⊢;obtain⟨N,Q⟩:∃ N,t.length=N:=⟨_,rfl⟩;rw[Q] at R K p1 p2 q f ⊢;generalize (t=s)=EQ at *;clear C B c Q;go_enter func28,ntmps28;go_wp2_with fail;go_loopw[5] (λi wr=>∃ k:Nat,k<=N/\i=.int .i64 (k:Int)/\(∀ j,j<k->ats t j=ats s j)/\Kp w wr) (λi _=>(N - (intOf i).toNat))
  case atStart=>exact⟨0,IO _,rfl,λt h=>by omega,Kp.refl _⟩
  case round=>
   obtain⟨k,hk,rfl,d,g⟩:=hrel;by_cases n:k<N
   ·obtain⟨g1,o1,rfl,_,z⟩:=R.out.at k n
    obtain⟨g2,o2,rfl,_,y⟩:=K.out.at k n;obtain⟨Z,X,U,M⟩:=z k n;obtain⟨Y,V,T,L⟩:=y k n;have m:=M.kp g;have l:=L.kp g;obtain⟨al,ak,aj,ai,ah⟩:=IC m.kind (IC m.name (IC m.pubC (IC m.unC m.hashC)));obtain⟨ag,af,ae,ad,ab⟩:=IC l.kind (IC l.name (IC l.pubC (IC l.unC l.hashC)));have F:=Lib.hid (λW (P:Kp wr W)=>A.out (ats t k) (ats s k) _ _ W ⟨Z,X,U,rfl,m.2.kp P⟩ ⟨Y,V,T,rfl,l.2.kp P⟩);simp only[bV] at F;have p:=q.out k n;have o:Hid (ats t k=ats s k->∀ j,j<k+1->ats t j=ats s j):=λhe j hj=>by
     rcases Jc (Jn.1 hj) with I|I
     ·exact d j I
     ·rw[I];exact he
    have i1:IntKind.i64.wrap ((k:Int)+1)=(k:Int)+1:=IA _ (by omega);have i2:(k:Int)<(N:Int):=by omega
    have J:=Lib.hid g;have M1:=Lib.hid m;have M2:=Lib.hid l;obtain⟨xa,na,ca,rfl⟩:=aA m.2.pub;obtain⟨xb,nb,cb,rfl⟩:=m.2.un.sl;obtain⟨xc,nc,cc,rfl⟩:=aA m.2.hash;obtain⟨xd,aa,cd,rfl⟩:=aA l.2.pub;obtain⟨xe,ne,ce,rfl⟩:=l.2.un.sl;obtain⟨xf,nf,cf,rfl⟩:=aA l.2.hash;clear z y f q d g M L m l A M1 M2;generalize (ats t k=ats s k)=E1 at *;generalize (ats t k)=A1 at *;generalize (ats s k)=A2 at *;go_wp2_with fail;go_region_with (go_at_call 77;refine(F.out _ (by first|exact Kp.refl _|exact(Kp.refl _).drew)).mono ?_;rintro e9 w9 ⟨t9,H⟩;obtain⟨b9,rfl,D⟩:=t9)
    all_goals
     have E:=Lib.hid (J.out.trans (((Kp.refl wr).drew).trans H));cases b9
     ·have G:=Lib.hid (p λe=>by have:=D.2 e;cases this)
      clear D p o F H;go_wp2_with fail;go_ret;first|exact⟨aL.no G.out,E.out⟩|exact⟨aL.no G.out,E.out.drew⟩
     ·have S:=Lib.hid (o.out (D.1 rfl))
      clear D p o F H;go_wp2_with fail;go_roundw
      case rel=>first|exact⟨k+1,by omega,by go_num,S.out,E.out⟩|exact⟨k+1,by omega,by go_num,S.out,E.out.drew⟩
      case measure=>simp[intOf];omega
   ·obtain rfl:k=N:=by omega
    have G:=Lib.hid (f.out d);have J:=Lib.hid g;clear f q d g;go_wp2_with fail;go_ret;exact⟨aL.yes G.out,J.out⟩
 ·have r:¬(t.length:Int)=(s.length:Int):=by omega
  have O:((t.length:Int)==(s.length:Int))=false:=ID.2 r;have HN:Hid (¬t=s):=λh=>c (by rw[h])
  clear C B c;go_enter func28,ntmps28;go_wp2_with fail;go_ret;exact⟨aL.no HN.out,Kp.refl _⟩
theorem Dx (u:Value)(t:List Nod)(m:Nat)(w:World)(x:NL w u t)(Y:m<=100000):
  Calls prog 39 #[u,.int .i64 (m:Int)] w λe w'=>aL e (gn t m)/\w=w':=by
 obtain⟨a1,c1,rfl,p1,T⟩:=x.shape;by_cases d:t.length<=m
 ·have g:Hid (∀ k,k<t.length->¬((ats t k).pub.length<=40/\(ats t k).hash.length<=40/\(ats t k).un.length<=m)->¬gn t m):=λk q s h=>s (by
   rw[jA q];exact h.2 _ (Jg q))
  have f:Hid ((∀ k,k<t.length->((ats t k).pub.length<=40/\(ats t k).hash.length<=40/\(ats t k).un.length<=m))->gn t m):=λh=>⟨d,λn F=>by
   obtain⟨k,q,rfl⟩:=Jr F;have:=h k q;rwa [jA q] at this⟩
  have E:=Lib.hid x;obtain⟨N,B⟩:∃ N,t.length=N:=⟨_,rfl⟩;rw[B] at E p1 g f d ⊢;generalize gn t m=SP at *;clear x B;go_enter func39,ntmps39;go_wp2_with fail;go_loop [5] (λi=>∃ k:Nat,k<=N/\i=.int .i64 (k:Int)/\(∀ j,j<k->((ats t j).pub.length<=40/\(ats t j).hash.length<=40/\(ats t j).un.length<=m))) (λi=>(N - (intOf i).toNat))
  case atStart=>exact⟨0,IO _,rfl,λt h=>by omega⟩
  case round=>
   obtain⟨k,q,rfl,c⟩:=hrel;by_cases o:k<N
   ·obtain⟨Z,V,rfl,_,v⟩:=E.out.at k o
    obtain⟨S,M,L,l⟩:=v k o;have c2:=l.pubC;have c3:=l.unC;have c4:=l.hashC;obtain⟨R,ca,rfl,_,_⟩:=l.2.pub.shape;obtain⟨Q,cb,rfl,_,_⟩:=l.2.un.shape;obtain⟨O,cc,rfl,_,_⟩:=l.2.hash.shape;have a:=g.out k o;have b:Hid (((ats t k).pub.length<=40/\(ats t k).hash.length<=40/\(ats t k).un.length<=m)->∀ j,j<k+1->((ats t j).pub.length<=40/\(ats t j).hash.length<=40/\(ats t j).un.length<=m)):=λI j G=>by
     rcases Jc (Jn.1 G) with r|r
     ·exact c j r
     ·rw[r];exact I
    have X:IntKind.i64.wrap ((k:Int)+1)=(k:Int)+1:=IA _ (by omega);have W:(k:Int)<(N:Int):=by omega
    clear v f g c l;generalize (ats t k).pub.length=P at *;generalize (ats t k).hash.length=H at *;generalize (ats t k).un.length=U at *;by_cases D:P<=40
    ·have A:¬(40:Int)<(P:Int):=by omega
     by_cases C:H<=40
     ·have z:¬(40:Int)<(H:Int):=by omega
      by_cases r:U<=m
      ·have y:¬(m:Int)<(U:Int):=by omega
       have J:=Lib.hid (b.out ⟨D,C,r⟩);clear a b;go_wp2_with fail;go_round
       case rel=>exact⟨k+1,by omega,by go_num,J.out⟩
       case measure=>simp[intOf];omega
      ·have y:(m:Int)<(U:Int):=by omega
       have p:=Lib.hid (a λh=>r h.2.2);clear a b;go_wp2_with fail;go_ret;exact⟨aL.no p.out,rfl⟩
     ·have z:(40:Int)<(H:Int):=by omega
      have p:=Lib.hid (a λh=>C h.2.1);clear a b;go_wp2_with fail;go_ret;exact⟨aL.no p.out,rfl⟩
    ·have A:(40:Int)<(P:Int):=by omega
     have p:=Lib.hid (a λh=>D h.1);clear a b;go_wp2_with fail;go_ret;exact⟨aL.no p.out,rfl⟩
   ·obtain rfl:k=N:=by omega
    have p:=Lib.hid (f.out c);clear f g c;go_wp2_with fail;go_ret;exact⟨aL.yes p.out,rfl⟩
 ·have s:(m:Int)<(t.length:Int):=by omega
  have K:Hid (¬gn t m):=λh=>d h.1
  clear x d;go_enter func39,ntmps39;go_wp2_with fail;go_ret;exact⟨aL.no K.out,rfl⟩
theorem Dy (u:Value)(t:List Nod)(m:Nat)(w:World)(d:NL w u t)(n:m<=100000):
  Calls prog 10 #[u,.int .i64 (m:Int)] w λe w'=>aL e (gn t m/\ft t)/\Kp w w':=by
 have o:=Lib.hid (Dx u t m w d n);have g:Hid (gn t m->Calls prog 27 #[u] w λe w'=>aL e (ft t)/\Kp w w'):=λh=>CJ u t w d (by have:=h.1;omega)
 obtain⟨v,s,rfl,p1,r⟩:=d.shape;clear d;generalize gn t m=j at *;generalize ft t=k at *;go_enter func10,ntmps10;go_wp2_with fail;refine o.out.mono ?_;rintro _ _ ⟨⟨b,rfl,a⟩,rfl⟩;cases b
 ·have p:Hid (¬(j/\k)):=λh=>by have:=a.2 h.1;cases this
  clear a g;go_wp2_with fail;go_ret;exact⟨aL.no p.out,Kp.refl _⟩
 ·have c:=a.1 rfl
  have f:=Lib.hid (g.out c);have q:=Lib.hid c;clear a g c;go_wp2_with fail;refine f.out.mono ?_;rintro _ w2 ⟨⟨b,rfl,a⟩,l⟩;have i:Hid (b=true↔j/\k):=⟨λh=>⟨q.out,a.1 h⟩,λh=>a.2 h.2⟩;clear a;go_wp2_with fail;go_ret;exact⟨⟨b,rfl,i.out⟩,l⟩
theorem vL (u:Value)(t:List Nod)(K j q:Nat)(w:World)(P:NL w u t)(z:az t K)(R:j<=K)(Q:q<2 ^ (K - j))(m:(ats t (nd j q)).kind≠0):
  Calls prog 36 #[u,.int .i64 ((nd j q:Nat):Int)] w λe w'=>(∃ r,e=.returned r/\OI 3 w' w.heap.size r (((nd j q:Nat):Int) :: (ats t (nd j q)).un.map (2*·)))/\Kp w w':=by
 have S:=fV;obtain⟨_,s2,Z⟩:=dX z.le R Q;have C:=λi hi=>z.unAt s2 Z i hi
 have O:=z.un_len (nd j q);have M:nd j q<t.length:=by rw[z.len];exact fq R Q
 obtain⟨a,c,rfl,p1,s1⟩:=P.shape;obtain⟨b,aa,rfl,hb,hc⟩:=P.at (nd j q) M;obtain⟨p,uu,h,D⟩:=hc (nd j q) M;have c0:=D.kind;have L:=Lib.hid (λW (hW:Kp w W)=>(D.kp hW).unC);have J:=Lib.hid D.2.un;obtain⟨aq,cq,rfl,u1,u2⟩:=D.2.un.shape;unfold maxLen at u2;have B:=z.small.1;generalize nd j q=X at *;have I:Hid (∀ k,k<(ats t X).un.length->0<=(ats t X).un.getD k 0/\(ats t X).un.getD k 0<=2047):=λk m=>by
  have hg:(ats t X).un.getD k 0=(ats t X).un[k]:=by rw[Iw,Iy m];rfl
  obtain⟨v,e,_,h3⟩:=C _ (Jg m);rw[hg,e];have:=az.lt_of (t:=t) (x:=2*v) (by rw[h3];decide);omega
 have H:Hid (∀ k,k<(ats t X).un.length->((X:Int) :: ((ats t X).un.take (k+1)).map (2*·))=((X:Int) :: ((ats t X).un.take k).map (2*·))++[2*(ats t X).un.getD k 0]):=λk m=>by
  rw[IP m,JZ,Iw,Iy m];rfl
 have f:Hid (((X:Int) :: ((ats t X).un.take (ats t X).un.length).map (2*·))=((X:Int) :: (ats t X).un.map (2*·))):=by unfold Hid;rw[Jz]
 have l:Hid (∀ k,((X:Int) :: ((ats t X).un.take k).map (2*·)).length<=1025):=λk=>by
  rw[Jf,Jl,Ja];omega
 have ae:((ats t X).kind==0)=false:=ID.2 m;obtain⟨N,hN⟩:∃ N,t.length=N:=⟨_,rfl⟩;rw[hN] at p1 M B ⊢;have i2:(X:Int)<(N:Int):=by omega
 have ad:decide ((N:Int)<=(X:Int))=false:=IS (by omega);have ab:¬(N:Int)<=(X:Int):=by omega
 generalize (ats t X).kind=KD at *;generalize (ats t X).un=n at *;obtain⟨U,hU⟩:∃ U,n.length=U:=⟨_,rfl⟩;rw[hU] at L J I H f u1 O;clear P z R Q hc D hN C hU s2 Z hb B;obtain⟨F,T⟩:∃ F:Nat->List Int,F=λk=>((X:Int) :: (n.take k).map (2*·)):=⟨_,rfl⟩
 have G:∀ k,((X:Int) :: (n.take k).map (2*·))=F k:=λk=>by rw[T]
 have y:Hid ([(X:Int)]=F 0):=by unfold Hid;rw[T];rfl
 simp only[G] at H f l;generalize ((X:Int) :: n.map (2*·))=ah at *;clear T G;go_enter func36,ntmps36;go_wp2_with fail;have s:Hid (OI 3 (w.alloc (.cells #[.int .i64 (X:Int)] 3)) w.heap.size (.slice (some ⟨w.heap.size,0,none⟩) 1 1) (F 0)):=by
  rw[<-y.out];exact RI.lit w 3 #[.int .i64 (X:Int)] [(X:Int)] 1 rfl (by omega) rfl
 go_loopw[5,6] (λv i wr=>∃ k:Nat,k<=U/\i=.int .i64 (k:Int)/\OI 3 wr w.heap.size v (F k)/\Kp w wr) (λ_ i _=>(U - (intOf i).toNat))
 case atStart=>exact⟨0,IO _,rfl,s.out,(Kp.refl _).alloc _⟩
 case round=>
  obtain⟨k,m,rfl,A,d⟩:=hrel;have c3:=L.out wr d;have i1:IntKind.i64.wrap ((k:Int)+1)=(k:Int)+1:=IA _ (by omega);by_cases g:k<U
  ·obtain⟨g1,o1,rfl,_,E⟩:=(J.out.kp d).at k g
   have d1:=E k g;obtain⟨v0,v1⟩:=I.out k g;have Y:=Lib.hid (H.out k g);have ag:=l.out k;have af:=d.size;have i4:IntKind.i64.wrap (2*n.getD k 0)=2*n.getD k 0:=IA _ (by omega);clear L J I H f l E y s;generalize n.getD k 0=V at *;generalize F k=FK at *;go_wp2_with(at_builtin;refine ga (o:=⟨some 48,_,_,_,_,_⟩) S rfl _ _ rfl w.heap.size _ FK rfl (A.kp ((Kp.refl wr).alloc _)) _ [2*V] rfl (OI.lit1 wr 3 (2*V)) (by simp;omega) (by simp;omega) ?_;intro v5 w5 o5 g5;have k5:Kp w w5:=Kp.grown (d.alloc _) g5 A.own_ge)
   go_roundw
   case rel=>exact⟨k+1,by omega,by go_num,by rw[Y.out];exact o5,k5⟩
   case measure=>simp[intOf];omega
  ·obtain rfl:k=U:=by omega
   rw[f.out] at A;have HO:=Lib.hid (IC A d);obtain⟨a5,n5,c5,rfl⟩:=A.ri.sl;clear A d f H l I y s L J;go_wp2_with fail;go_ret;exact⟨⟨_,rfl,HO.out.1⟩,HO.out.2⟩
theorem Dz {l:List Int}(b:Int)(n:Nat)(h:l.Pairwise (·<·))(c:∀ i∈l,b<=i/\i<b+n):l.length<=n:=by
 have key:∀ k (a:k<l.length),b+(k:Int)<=l[k]:=by
  intro k;induction k with
  | zero=>intro a;have:=(c _ (Jg a)).1;omega
  | succ k ih=>
   intro a;have e:=ih (by omega);have d:=(Jv.1 h) k (k+1) (by omega) a (by omega);omega
 by_cases f:l.length=0
 ·omega
 ·have e:=key (l.length - 1) (by omega)
  have d:=(c _ (Jg (show l.length - 1<l.length by omega))).2;omega
theorem mU (h:az t K):∀ (j q:Nat),j<=K->q<2 ^ (K - j)->(bm t j q).length<=2 ^ (j+1):=by
 have a:∀ (j q:Nat),j<=K->q<2 ^ (K - j)->(((nd j q:Nat):Int) :: (ats t (nd j q)).un.map (2*·)).length<=2 ^ (j+1):=by
  intro j q c b
  obtain⟨_,l,k⟩:=dX h.le c b
  have g:=bj j
  have o:=bC j
  rw[Jf,Jl]
  have:(ats t (nd j q)).un.length<=2 ^ j:=by
   rcases h.okA (nd j q) with f|⟨f,v,u,s,r⟩
   ·rw[f];exact IO _
   ·by_cases e:(ats t (nd j q)).kind=1
    ·rw[s e];exact IO _
    ·have d:=(r (by omega)).2
     obtain⟨n,m⟩:=ke l k
     rw[n,m] at d
     refine Dz ((2 ^ j*q:Nat):Int) _ d.1 λi p=>?_
     have:=d.2 i p
     omega
  omega
 intro j
 induction j with
 | zero=>
  intro q c b
  unfold bm
  split
  ·exact IO _
  ·exact a 0 q c b
 | succ j ih=>
  intro q c b
  have w:K - j=(K - (j+1))+1:=by omega
  have g:=bj (K - (j+1))
  rw[<-w] at g
  show(if (ats t (nd (j+1) q)).kind=0 then _ else _:List Int).length<=_
  split
  ·rw[IE]
   have f:=ih (2*q) (by omega) (by omega)
   have v:=ih (2*q+1) (by omega) (by omega)
   have u:=bj (j+1)
   omega
  ·exact a (j+1) q c b
theorem DA (u:Value)(t:List Nod)(K:Nat)(f:az t K):∀ (j q:Nat) (w:World),NL w u t->j<=K->q<2 ^ (K - j) ->
  Calls prog 36 #[u,.int .i64 ((nd j q:Nat):Int)] w λe w'=>(∃ r,e=.returned r/\OI 3 w' w.heap.size r (bm t j q))/\Kp w w':=by
 intro j
 induction j with
 | zero=>
  intro q w d k i
  by_cases g:(ats t (nd 0 q)).kind=0
  ·have e:bm t 0 q=[]:=by unfold bm;rw[if_pos g]
   rw[e]
   have n:nd 0 q<t.length:=by rw[f.len];exact fq k i
   obtain⟨a,c,rfl,p1,s1⟩:=d.shape
   obtain⟨b,A,rfl,E,y⟩:=d.at (nd 0 q) n
   obtain⟨p,uu,h,v⟩:=y (nd 0 q) n
   have H:=v.kind
   rw[g] at H
   have i2:((nd 0 q:Nat):Int)<(t.length:Int):=by omega
   have D:=rg (nd 0 q)
   have s:((nd 0 q:Nat):Int) % 2=0:=by have:=ly q;omega
   rw[s] at D
   generalize nd 0 q=X at *
   generalize t.length=N at *
   clear y v d f e E i k s
   go_enter func36,ntmps36
   go_wp2_with fail
   go_ret
   exact⟨⟨_,rfl,OI.nil _ _ _⟩,Kp.refl _⟩
  ·have e:bm t 0 q=(((nd 0 q:Nat):Int) :: (ats t (nd 0 q)).un.map (2*·)):=by unfold bm;rw[if_neg g]
   rw[e]
   exact vL u t K 0 q w d f k i g
 | succ j ih=>
  intro q w d k i
  by_cases g:(ats t (nd (j+1) q)).kind=0
  ·have S:=fV
   have e:bm t (j+1) q=bm t j (2*q)++bm t j (2*q+1):=by
    show(if (ats t (nd (j+1) q)).kind=0 then _ else _)=_
    rw[if_pos g]
   rw[e]
   have Z:K - j=(K - (j+1))+1:=by omega
   have T:=bj (K - (j+1))
   rw[<-Z] at T
   have H1:=Lib.hid (λW (F:Kp w W)=>ih (2*q) W (d.kp F) (by omega) (by omega))
   have H2:=Lib.hid (λW (F:Kp w W)=>ih (2*q+1) W (d.kp F) (by omega) (by omega))
   obtain⟨_,P,O⟩:=dX f.le k i
   obtain⟨G,Y,V⟩:=fN (j:=j) (q:=q) P O
   have m:=Lib.hid (oZ ((nd (j+1) q:Nat):Int) w)
   have l:=Lib.hid (pa ((nd (j+1) q:Nat):Int) w)
   rw[G,Y] at m
   rw[G,V] at l
   have x:(bm t j (2*q)).length+(bm t j (2*q+1)).length<=1000000:=by
    have h1:=mU f j (2*q) (by omega) (by omega)
    have h2:=mU f j (2*q+1) (by omega) (by omega)
    have h3:2 ^ (j+1)<=1024:=bY (by have:=f.le;omega)
    omega
   have n:nd (j+1) q<t.length:=by rw[f.len];exact fq k i
   obtain⟨a,c,rfl,p1,s1⟩:=d.shape
   obtain⟨b,A,rfl,E,y⟩:=d.at (nd (j+1) q) n
   obtain⟨p,uu,h,v⟩:=y (nd (j+1) q) n
   have H:=v.kind
   rw[g] at H
   have i2:((nd (j+1) q:Nat):Int)<(t.length:Int):=by omega
   have D:=rg (nd (j+1) q)
   have s:((nd (j+1) q:Nat):Int) % 2=1:=by have:=iU j q;omega
   rw[s] at D
   generalize nd (j+1) q=X at *
   generalize nd j (2*q)=XL at *
   generalize nd j (2*q+1)=XR at *
   generalize bm t j (2*q)=J at *
   generalize bm t j (2*q+1)=I at *
   generalize t.length=N at *
   clear y v d f e E i k s Z T P O G Y V ih n
   go_enter func36,ntmps36
   go_wp2_with fail
   refine m.out.mono ?_;rintro _ _ ⟨rfl,rfl⟩
   go_wp2_with fail
   refine l.out.mono ?_;rintro _ _ ⟨rfl,rfl⟩
   clear m l
   go_wp2_with fail
   refine(H1.out w (Kp.refl _)).mono ?_;rintro _ w1 ⟨⟨r1,rfl,C⟩,k1⟩
   have M:=Lib.hid k1
   have L:=Lib.hid C
   obtain⟨x5,n5,c5,rfl⟩:=C.ri.sl
   clear H1 C
   go_wp2_with fail
   refine(H2.out w1 M.out).mono ?_;rintro _ w2 ⟨⟨r2,rfl,Q⟩,z⟩
   have aa:=(M.out.trans z).size
   go_wp2_with(at_builtin;refine ga (o:=⟨some 69,_,_,_,_,_⟩) S rfl _ _ rfl w.heap.size _ J rfl (L.out.kp z) _ I rfl Q.ri x (by omega) ?_;intro v5 w5 B U;have R:Kp w w5:=Kp.grown (M.out.trans z) U L.out.own_ge)
   have O5:=Lib.hid (IC B R)
   obtain⟨x6,n6,c6,rfl⟩:=B.ri.sl
   clear H2 Q z B U R L
   go_wp2_with fail
   go_ret
   exact⟨⟨_,rfl,O5.out.1⟩,O5.out.2⟩
  ·have e:bm t (j+1) q=(((nd (j+1) q:Nat):Int) :: (ats t (nd (j+1) q)).un.map (2*·)):=by
    show(if (ats t (nd (j+1) q)).kind=0 then _ else _)=_
    rw[if_neg g]
   rw[e]
   exact vL u t K (j+1) q w d f k i g
theorem DB (u:Value)(t:List Nod)(K:Nat)(x:Int)(w:World)(b:NL w u t)(d:az t K):
  Calls prog 36 #[u,.int .i64 x] w λe w'=>(∃ r,e=.returned r/\OI 3 w' w.heap.size r (gi t x))/\Kp w w':=by
 by_cases k:0<=x
 ·obtain⟨y,rfl⟩:=IR k
  by_cases i:y<t.length
  ·obtain⟨j,q,rfl,g,f⟩:=gL K y (by rw[<-d.len];exact i)
   rw[nX d g f];exact DA u t K d j q w b g f
  ·have e:gi t (y:Int)=[]:=if_neg (by omega)
   have m:¬(y:Int)<0:=by omega
   have n:(t.length:Int)<=(y:Int):=by omega
   rw[e];obtain⟨a,c,rfl,p1,l⟩:=b.shape;clear b d e i;go_enter func36,ntmps36;go_wp2_with fail;go_ret;exact⟨⟨_,rfl,OI.nil _ _ _⟩,Kp.refl _⟩
 ·have e:gi t x=[]:=if_neg (λh=>k h.1)
  have m:x<0:=by omega
  rw[e];obtain⟨a,c,rfl,p1,l⟩:=b.shape;clear b d e;go_enter func36,ntmps36;go_wp2_with fail;go_ret;exact⟨⟨_,rfl,OI.nil _ _ _⟩,Kp.refl _⟩
def nS (who:List (List Int))(k:Nat):Nat:=((who.take k).map List.length).sum
theorem vM {who:List (List Int)}(h:k<who.length):nS who (k+1)=nS who k+(who.getD k []).length:=by
 unfold nS;rw[IP h,JZ,List.sum_append,Iw,Iy h];simp
theorem vN {who:List (List Int)}{M:Nat}(hM:∀ k,k<who.length->(who.getD k []).length<=M):∀ k,k<=who.length->nS who k<=k*M
 | 0,_=>by simp[nS]
 | k+1,h=>by
  rw[vM (by omega),Le,Lf]
  have:=vN hM k (by omega)
  have:=hM k (by omega)
  omega
def stS (t:List Nod)(secret info:List UInt8)(who:List (List Int))(k:Nat):St:=⟨dE (bQ (aV secret k) fC),cA t secret info (aV secret k) (nS who k) (who.getD k [])⟩
theorem vO (t:List Nod)(secret info:List UInt8):∀ (l:List (List Int)) (s:List UInt8) (n k:Nat),k<l.length->(makeS t secret info s n l)[k]?=some ⟨dE (bQ (aV s k) fC),cA t secret info (aV s k) (n+nS l k) (l.getD k [])⟩
 | [],_,_,_,h=>absurd h (Kd _)
 | who :: l,s,n,0,_=>by simp[nS];rfl
 | who :: l,s,n,k+1,h=>by
  show(makeS t secret info (bQ s fU) (n+who.length) l)[k]?=_
  rw[vO t secret info l _ _ k (by simpa using h)]
  have e1:aV (bQ s fU) k=aV s (k+1):=by
   have:=jn s 1 k
   rw[LA] at this
   exact this.symm
  have e2:nS (who :: l) (k+1)=who.length+nS l k:=by simp[nS]
  rw[e1,e2,Kw]
  rfl
theorem DC {secret info:List UInt8}{who:List (List Int)}(h:k<who.length):(makeS t secret info secret 0 who).take (k+1)=(makeS t secret info secret 0 who).take k++[stS t secret info who k]:=by
 have b:=oY t secret info who secret 0;have a:=vO t secret info who secret 0 k h;rw[IP (by omega)];rw[Iy (by omega)] at a;rw[Ld a,JA];rfl
def seS (t:List Nod)(secret info s:List UInt8)(n:Nat)(l:List Int)(j:Nat):Se:=⟨il (ats t (l.getD j 0).toNat).pub (dG secret (n+j)),io (ats t (l.getD j 0).toNat).pub (dG secret (n+j)) info s⟩
theorem rz (t:List Nod)(secret info s:List UInt8):∀ (l:List Int) (n j:Nat),j<l.length->(cA t secret info s n l)[j]?=some (seS t secret info s n l j)
 | [],_,_,h=>absurd h (Kd _)
 | y :: l,n,0,_=>rfl
 | y :: l,n,j+1,h=>by
  show(cA t secret info s (n+1) l)[j]?=_
  rw[rz t secret info s l (n+1) j (by simpa using h)]
  unfold seS
  rw[show n+1+j=n+(j+1) by omega]
  rfl
theorem DD {secret info:List UInt8}{l:List Int}(h:j<l.length):(cA t secret info s n l).take (j+1)=(cA t secret info s n l).take j++[seS t secret info s n l j]:=by
 have b:=mF t secret info s l n;have a:=rz t secret info s l n j h;rw[IP (by omega)];rw[Iy (by omega)] at a;rw[Ld a]
theorem DE (a:az t K)(f:i<2 ^ K)(h:k<K):(bX t i k).length<=2048/\∀ l∈bX t i k,∃ y:Nat,l=(y:Int)/\y<t.length/\(ats t y).kind≠0:=by
 have b:sq (i / 2 ^ k)<2 ^ (K - k):=by
  have c:=jz (K:=K) (j:=0) (q:=i) (i:=k) (by simpa using f) (by omega);rw[JA] at c;obtain⟨d,g⟩:∃ d,K - k=d+1:=⟨K - k - 1,by omega⟩;rw[g,bj] at c ⊢;generalize i / 2 ^ k=r at *;generalize 2 ^ d=D at *;unfold sq;split <;> omega
 have e:bX t i k=bm t k (sq (i / 2 ^ k)):=nX a (by omega) b;rw[e];refine⟨?_,zL a k _ (by omega) b⟩;have c:=mU a k _ (by omega) b;have n:=bY (K:=k+1) (by have:=a.le;omega);have m:=bj k;omega
theorem mW (e:az t K)(f:i<2 ^ K)(m:a<(aT t i K).length):((aT t i K).getD a []).length<=2048/\∀ j,j<((aT t i K).getD a []).length->∃ y:Nat,((aT t i K).getD a []).getD j 0=(y:Int)/\y<t.length/\(ats t y).kind≠0:=by
 have l:=(dR t i K).2;obtain⟨k,d,_,_,_,c,_⟩:=Dd (t:=t) (K:=K) (i:=i) (a:=a) [] [] [] (by omega);rw[c];obtain⟨h,g⟩:=DE e f d;refine⟨h,λj b=>g _ ?_⟩;rw[Iw,Iy b];exact Jg b
theorem DF (h:n<4294967296):eP (n:Int) 4=be 4 n:=by
 unfold eP;rw[if_pos]
 ·rfl
 ·unfold eH
  refine⟨by omega,by omega,by omega,?_⟩;show(n:Int)<4294967296
  omega
theorem DH (pub half info b:List UInt8):(iO pub half info b).length=b.length+32:=qU _ _ _ _
theorem rA (t:List Nod)(K i:Nat){secret:List UInt8}(seed info:List UInt8)(c:secret.length=32)(k j:Nat):
  (aM (am (aQ t K i seed secret info).step k).fors j).half.length<=64/\(aM (am (aQ t K i seed secret info).step k).fors j).b.length<=64:=by
 have a:∀ l:List Se,l.length<=j->(aM l j).half.length<=64/\(aM l j).b.length<=64:=λl h=>by
  have e:aM l j=⟨[],[]⟩:=by unfold aM;rw[Iw,Ly h];rfl
  rw[e];exact⟨IO _,IO _⟩
 by_cases d:k<(aT t i K).length
 ·obtain⟨n',e⟩:=mP t secret info (aT t i K) secret 0 k d
  show(aM (am (makeS t secret info secret 0 (aT t i K)) k).fors j).half.length<=64/\(aM (am (makeS t secret info secret 0 (aT t i K)) k).fors j).b.length<=64
  rw[e];by_cases f:j<((aT t i K).getD k []).length
  ·have g:aM (cA t secret info (aV secret k) n' ((aT t i K).getD k [])) j=seS t secret info (aV secret k) n' ((aT t i K).getD k []) j:=by
    unfold aM;rw[Iw,rz _ _ _ _ _ _ _ f];rfl
   rw[g];refine⟨?_,?_⟩
   ·show(il _ _).length<=64
    unfold il;split
    ·rw[fT];decide
    ·exact IO _
   ·show(io _ _ _ _).length<=64
    unfold io;split
    ·rw[DH,iq c];decide
    ·exact IO _
  ·exact a _ (by rw[mF];omega)
 ·have e:am (aQ t K i seed secret info).step k=⟨[],[]⟩:=by
   unfold am;rw[Iw,Ly (by have:=(ir t K i seed secret info).1;omega)];rfl
  rw[e];exact a [] (IO _)
theorem vP {secret:List UInt8}(seed info:List UInt8)(f:az t K)(g:i<2 ^ K)(d:secret.length=32):
  (∀ k j,(aM (am (aQ t K i seed secret info).step k).fors j).b.length<=1600)/\∀ j,j<(aQ t K i seed secret info).step.length->(am (aQ t K i seed secret info).step j).pub.length<=10000/\(am (aQ t K i seed secret info).step j).fors.length<=10000/\∀ k,k<(am (aQ t K i seed secret info).step j).fors.length->(aM (am (aQ t K i seed secret info).step j).fors k).half.length<=10000/\(aM (am (aQ t K i seed secret info).step j).fors k).b.length<=10000:=by
 have c:=ir t K i seed secret info;refine⟨λk j=>IU (rA t K i seed info d k j).2 (by decide),λj e=>⟨?_,?_,λk _=>⟨IU (rA t K i seed info d j k).1 (by decide),IU (rA t K i seed info d j k).2 (by decide)⟩⟩⟩
 ·rw[(c.2.2 j (by rw[<-c.1];exact e)).2];decide
 ·rw[(c.2.2 j (by rw[<-c.1];exact e)).1]
  exact IU (mW (a:=j) f g (by rw[<-c.1];exact e)).1 (by decide)
def dk (p1 p2:List UInt8):List Nod:=[aD 1 p1,aY,aD 2 p2]
section
variable {p1 p2 : List UInt8}
theorem rN (b:p1.length=32):pf 1 p1=0/\pg 1 p1=[aD 1 p1]:=by
 have a:dx 1 p1:=⟨by decide,by decide,b⟩;exact⟨if_pos a,if_pos a⟩
theorem rO (d:p1.length=32)(c:p2.length=32):dK [aD 1 p1] 2 p2=0/\gO [aD 1 p1] 2 p2=dk p1 p2/\iC [aD 1 p1] 2 p2=1:=by
 have b:dx 2 p2:=⟨by decide,by decide,c⟩;have a:dK [aD 1 p1] 2 p2=0:=by
  unfold dK;rw[if_pos b];kernel_rfl
 unfold gO iC;rw[if_pos a,if_pos a];refine⟨a,?_,?_⟩
 ·kernel_rfl
 ·kernel_rfl
theorem Fb (a:p1.length=32):az [aD 1 p1] 0:=(rN a).2▸(az.new ⟨by decide,by decide,a⟩)
theorem Fc (g:p1.length=32)(f:p2.length=32):az (dk p1 p2) 1:=by
 refine⟨by omega,rfl,λx e=>?_,λx y c b j i=>?_,⟨0,(show 0<3 by decide),rfl⟩⟩
 ·have d:x<3:=e
  rcases (show x=0\/x=1\/x=2 by omega) with rfl|rfl|rfl
  ·exact .inr ⟨rfl,⟨(show(0:Int)<=1 by decide),(show(1:Int)<=65535 by decide),g⟩,.inl rfl,λ_=>rfl,λh=>(by cases h)⟩
  ·exact .inl rfl
  ·exact .inr ⟨rfl,⟨(show(0:Int)<=2 by decide),(show(2:Int)<=65535 by decide),f⟩,.inl rfl,λ_=>rfl,λh=>(by cases h)⟩
 ·have a:y<3:=b
  rcases (show(x=0/\y=1)\/(x=0/\y=2)\/(x=1/\y=2) by omega) with⟨rfl,rfl⟩|⟨rfl,rfl⟩|⟨rfl,rfl⟩
  ·cases i
  ·exact(show(1:Int)≠2 by decide)
  ·cases j
theorem Fd (c:p1.length=32)(b:p2.length=32):gn (dk p1 p2) 40:=⟨(show 3<=40 by decide),λn a=>by
 unfold dk at a;simp only[JP,Lk,or_false] at a;rcases a with rfl|rfl|rfl
 ·exact⟨by show p1.length<=40;omega,(show 0<=40 by decide),(show 0<=40 by decide)⟩
 ·exact⟨by decide,by decide,by decide⟩
 ·exact⟨by show p2.length<=40;omega,(show 0<=40 by decide),(show 0<=40 by decide)⟩⟩
theorem wS:(ats (dk p1 p2) (2*0)).kind=1/\(ats (dk p1 p2) (2*1)).kind=1/\aw (dk p1 p2) 0 1=[1]/\aw (dk p1 p2) 1 1=[1]/\aT (dk p1 p2) 0 1=[[2]]/\dF (dk p1 p2) 1=0/\bd (dk p1 p2) 0/\bd (dk p1 p2) 1:=
 ⟨rfl,rfl,by kernel_rfl,by kernel_rfl,by kernel_rfl,by kernel_rfl,⟨by decide,(show(0:Int)<((3+1) / 2:Nat) by decide),rfl⟩,⟨by decide,(show(1:Int)<((3+1) / 2:Nat) by decide),rfl⟩⟩
theorem Fe (c:s.length=32)(d:p2=aG s):bL (dk p1 p2) 1 (1:Int) [⟨2,s⟩]/\¬bL (dk p1 p2) 1 (0:Int) [⟨2,s⟩]:=by
 refine⟨kY.2 ⟨(wS (p1:=p1) (p2:=p2)).2.2.2.2.2.2.2,Kr _ _,λx a=>?_,λx a f=>?_,⟨_,JR.2 rfl,rfl⟩⟩,λh=>?_⟩
 ·rw[JR] at a
  subst a;exact⟨.inl rfl,c,d.symm⟩
 ·have:x∈[1]:=a
  rw[JR] at this;subst this;cases f
 ·obtain⟨_,_,_,_,⟨z,b,e⟩⟩:=kY.1 h
  rw[JR] at b;subst b;cases e
end

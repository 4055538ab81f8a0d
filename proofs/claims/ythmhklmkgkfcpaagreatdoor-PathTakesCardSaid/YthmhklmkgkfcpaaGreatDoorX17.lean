import Derived.Test.YthmhklmkgkfcpaaGreatDoorX15
import Derived.Maps.OwnSet
import Derived.Sort.KeysCollected
set_option linter.all false
set_option maxHeartbeats 8000000
set_option maxRecDepth 100000
namespace Go.Proofs.YthmhklmkgkfcpaaGreatDoor
open Go.Proofs.Tryz Go.RowKit
variable {B K a g i k me n:Nat}{D:DataW Value}{S':Sd->Prop}{Y Z:Nat->Prop}{e:TypeId}{l:List Sd}{s:List UInt8}{t:List Nod}{v z:Value}{w w':World}{α:Type}
def srt (l:List Sd):Prop:=l.Pairwise λa b=>a.node<b.node
theorem pQ:∀ (l:List Sd) (s x:Sd),x∈dY l s↔x=s\/x∈l
 | [],s,x=>by simp[dY]
 | a :: l,s,x=>by
  unfold dY
  split
  ·rw[Lu]
  ·rw[Lu,pQ l s x,Lu]
   constructor
   ·rintro (h|h|h)
    ·exact .inr (.inl h)
    ·exact .inl h
    ·exact .inr (.inr h)
   ·rintro (h|h|h)
    ·exact .inr (.inl h)
    ·exact .inl h
    ·exact .inr (.inr h)
theorem wU:∀ (l:List Sd) (s:Sd),srt l->(∀ a∈l,a.node≠s.node)->srt (dY l s)
 | [],s,_,_=>Mp _ _
 | a :: l,s,h,hn=>by
  have h1:=Ml.1 h
  unfold dY
  split
  ·next hlt=>
   refine Ml.2 ⟨λb hb=>?_,h⟩
   rcases Lu.1 hb with e|e
   ·rw[e];exact hlt
   ·exact Int.lt_trans hlt (h1.1 b e)
  ·next hlt=>
   have hne:=hn a (by simp)
   refine Ml.2 ⟨λb hb=>?_,wU l s h1.2 λb hb=>hn b (by simp[hb])⟩
   rcases (pQ l s b).1 hb with e|e
   ·rw[e];omega
   ·exact h1.1 b e
theorem pR:∀ (l:List Sd),srt l->∀ s∈l,aZ l s.node=s.seed
 | [],_,s,h=>by cases h
 | a :: l,hs,s,h=>by
  have h1:=Ml.1 hs
  unfold aZ
  rcases Lu.1 h with e|e
  ·rw[e,if_pos rfl]
  ·have:=h1.1 s e
   rw[if_neg (by omega)]
   exact pR l h1.2 s e
theorem wV:∀ (xs:List Nat) (own:List Sd) (s:List UInt8) (x:Sd),x∈cX own s xs↔x∈own\/∃ a,a<xs.length/\x=⟨((xs.getD a 0:Nat):Int),bo s a⟩
 | [],own,s,x=>by
  show x∈own↔_
  exact⟨λh=>.inl h,λh=>by
   rcases h with h|⟨a,ha,_⟩
   ·exact h
   ·exact absurd ha (LT _)⟩
 | y :: xs,own,s,x=>by
  show x∈cX (dY own ⟨(y:Int),bH s eI⟩) (bH s fF) xs↔_
  rw[wV xs,pQ]
  have hs:∀ a,bo (bH s fF) a=bo s (a+1):=λa=>by
   unfold bo
   congr 1
   have:=jT s 1 a
   rw[MW] at this
   exact this.symm
  constructor
  ·rintro ((h|h)|⟨a,ha,h⟩)
   ·exact .inr ⟨0,by simp,h⟩
   ·exact .inl h
   ·exact .inr ⟨a+1,by simpa using ha,by rw[h,hs];rfl⟩
  ·rintro (h|⟨a,ha,h⟩)
   ·exact .inl (.inr h)
   ·cases a with
    | zero=>exact .inl (.inl h)
    | succ a=>exact .inr ⟨a,by simpa using ha,by rw[h,hs];rfl⟩
theorem wW:∀ (xs:List Nat) (own:List Sd) (s:List UInt8),xs.Nodup->srt own->(∀ a∈own,∀ x∈xs,a.node≠(x:Int))->srt (cX own s xs)
 | [],own,s,_,h,_=>h
 | y :: xs,own,s,hn,h,hd=>by
  have h1:=Nl.1 hn
  refine wW xs _ _ h1.2 (wU own _ h λa ha=>hd a ha y (by simp)) λa ha x hx=>?_
  rcases (pQ _ _ _).1 ha with e|e
  ·rw[e]
   intro e2
   have:y=x:=Int.ofNat.inj e2
   subst this
   exact h1.1 hx
  ·exact hd a e x (by simp[hx])
theorem nU (h:k<l.length):aG l k∈l:=by
 unfold aG;rw[JF,JG h];exact Ko h
theorem eV (h:k<l.length):aG l k=l[k]:=by
 unfold aG;rw[JF,JG h];rfl
theorem nV {me:Int}{own:List Sd}:bZ t K me own ↔
  bc t me/\srt own/\(∀ s∈own,(s.node=2*me\/∃ x∈aL K 0 me.toNat,(x:Int)=s.node/\(ats t x).kind=2)/\s.seed.length=32/\aI s.seed=(ats t s.node.toNat).pub) /\
  (∀ x∈aL K 0 me.toNat,(ats t x).kind=2->me∉(ats t x).un->∃ s∈own,s.node=(x:Int))/\∃ s∈own,s.node=2*me:=by
 constructor
 ·rintro⟨u,g,j,r⟩
  have y:∀ s∈own,(s.node=2*me\/∃ x∈aL K 0 me.toNat,(x:Int)=s.node/\(ats t x).kind=2)/\s.seed.length=32/\aI s.seed=(ats t s.node.toNat).pub:=λs c=>by
   obtain⟨k,f,rfl⟩:=Ld c;have:=g k f;rw[eV f] at this;exact⟨this.1,this.2.1,this.2.2.1⟩
  have h:∀ d a,a+d+1<own.length->(aG own a).node<(aG own (a+d+1)).node:=λd=>by
   induction d with
   | zero=>exact λa i=>by have:=(g (a+0+1) i).2.2.2 (by omega);rwa [show a+0+1 - 1=a by omega] at this
   | succ d ih=>
    intro a i;have v:=ih a (by omega);have l:=(g (a+(d+1)+1) i).2.2.2 (by omega);rw[show a+(d+1)+1 - 1=a+d+1 by omega] at l;exact Int.lt_trans v l
  refine⟨u,Lc.2 λa b i z A=>?_,y,λx o q p=>?_,?_⟩
  ·have:=h (b - a - 1) a (by omega)
   rw[show a+(b - a - 1)+1=b by omega,eV i,eV z] at this;exact this
  ·obtain⟨k,n,m,_⟩:=pO own _ (j x o q p)
   exact⟨_,nU n,m⟩
  ·obtain⟨k,n,m,_⟩:=pO own _ r
   exact⟨_,nU n,m⟩
 ·rintro⟨u,g,j,r,q⟩
  have w:∀ s∈own,(aZ own s.node).length≠0:=λs c=>by
   rw[pR own g s c,(j s c).2.1];decide
  refine⟨u,λk f=>?_,λx o p B=>?_,?_⟩
  ·obtain⟨v,l,C⟩:=j _ (nU f)
   refine⟨v,l,C,λD=>?_⟩;rw[eV f,eV (show k - 1<own.length by omega)];exact Lc.1 g (k - 1) k (by omega) f (by omega)
  ·obtain⟨s,c,e⟩:=r x o p B
   rw[<-e];exact w s c
  ·obtain⟨s,c,e⟩:=q
   rw[<-e];exact w s c
theorem wX:∀ (l:List Sd) (s:Sd),(dY l s).length=l.length+1
 | [],s=>rfl
 | a :: l,s=>by
  unfold dY
  split
  ·rfl
  ·rw[Ka,wX l s,Ka]
theorem wY:∀ (xs:List Nat) (own:List Sd) (s:List UInt8),(cX own s xs).length=own.length+xs.length
 | [],own,s=>rfl
 | y :: xs,own,s=>by
  show(cX (dY own _) _ xs).length=_
  rw[wY xs,wX,Ka]
  omega
theorem DE (seed secret info:List UInt8)(c:a<(ixS t i K).length):
  ∃ k,k<K/\0<(cK t i k).length/\(ixS t i K).getD a 0=k/\(aC t i K).getD a 0=nd (k+1) (i / 2 ^ (k+1))/\(aT t i K).getD a []=cK t i k/\(am (bS t K i seed secret info).step a).fors.length=(cK t i k).length:=by
 have b:=JG c;obtain⟨f,e⟩:=(lN t i K _).1 (Ko c);have d:(aT t i K).getD a []=cK t i (ixS t i K)[a]:=by
  unfold aT;rw[JF,KX,b];rfl
 refine⟨_,f,e,by rw[JF,b];rfl,?_,d,?_⟩
 ·unfold aC
  rw[JF,KX,b];rfl
 ·rw[((lU t K i seed secret info).2.2 a (by rw[(gy t i K).2];exact c)).1,d]
def dP (p1 p2:List UInt8):List Nod:=[aN 1 p1,aX,aN 2 p2]
section
variable {p1 p2 : List UInt8}
theorem su (b:p1.length=32):pJ 1 p1=0/\pK 1 p1=[aN 1 p1]:=by
 have a:eh 1 p1:=⟨by decide,by decide,b⟩;exact⟨if_pos a,if_pos a⟩
theorem sw (d:p1.length=32)(c:p2.length=32):eG [aN 1 p1] 2 p2=0/\iH [aN 1 p1] 2 p2=dP p1 p2/\jf [aN 1 p1] 2 p2=1:=by
 have b:eh 2 p2:=⟨by decide,by decide,c⟩;have a:eG [aN 1 p1] 2 p2=0:=by
  unfold eG;rw[if_pos b];kernel_rfl
 unfold iH jf;rw[if_pos a,if_pos a];refine⟨a,?_,?_⟩
 ·kernel_rfl
 ·kernel_rfl
theorem DF (a:p1.length=32):aD [aN 1 p1] 0:=(su a).2▸(aD.new ⟨by decide,by decide,a⟩)
theorem DH (g:p1.length=32)(f:p2.length=32):aD (dP p1 p2) 1:=by
 refine⟨by omega,rfl,λx e=>?_,λx y c b j i=>?_,⟨0,(show 0<3 by decide),rfl⟩⟩
 ·have d:x<3:=e
  rcases (show x=0\/x=1\/x=2 by omega) with rfl|rfl|rfl
  ·exact .inr ⟨rfl,⟨(show(0:Int)<=1 by decide),(show(1:Int)<=65535 by decide),g⟩,.inl rfl,λ_=>rfl,λh=>(by cases h)⟩
  ·exact .inl rfl
  ·exact .inr ⟨rfl,⟨(show(0:Int)<=2 by decide),(show(2:Int)<=65535 by decide),f⟩,.inl rfl,λ_=>rfl,λh=>(by cases h)⟩
 ·have a:y<3:=b
  rcases (show(x=0/\y=1)\/(x=0/\y=2)\/(x=1/\y=2) by omega) with⟨rfl,rfl⟩|⟨rfl,rfl⟩|⟨rfl,rfl⟩
  ·cases i
  ·exact(show(1:Int)≠2 by decide)
  ·cases j
theorem DI (c:p1.length=32)(b:p2.length=32):ij (dP p1 p2) 40:=⟨(show 3<=40 by decide),λn a=>by
 unfold dP at a;simp only[Lu,Mw,or_false] at a;rcases a with rfl|rfl|rfl
 ·exact⟨by show p1.length<=40;omega,(show 0<=40 by decide),(show 0<=40 by decide)⟩
 ·exact⟨by decide,by decide,by decide⟩
 ·exact⟨by show p2.length<=40;omega,(show 0<=40 by decide),(show 0<=40 by decide)⟩⟩
theorem wZ:(ats (dP p1 p2) (2*0)).kind=1/\(ats (dP p1 p2) (2*1)).kind=1/\aC (dP p1 p2) 0 1=[1]/\aC (dP p1 p2) 1 1=[1]/\aT (dP p1 p2) 0 1=[[2]]/\eU (dP p1 p2) 1=0/\bc (dP p1 p2) 0/\bc (dP p1 p2) 1:=
 ⟨rfl,rfl,by kernel_rfl,by kernel_rfl,by kernel_rfl,by kernel_rfl,⟨by decide,(show(0:Int)<((3+1) / 2:Nat) by decide),rfl⟩,⟨by decide,(show(1:Int)<((3+1) / 2:Nat) by decide),rfl⟩⟩
theorem DJ (c:s.length=32)(d:p2=aI s):bZ (dP p1 p2) 1 (1:Int) [⟨2,s⟩]/\¬bZ (dP p1 p2) 1 (0:Int) [⟨2,s⟩]:=by
 refine⟨nV.2 ⟨(wZ (p1:=p1) (p2:=p2)).2.2.2.2.2.2.2,Mp _ _,λx a=>?_,λx a f=>?_,⟨_,Lz.2 rfl,rfl⟩⟩,λh=>?_⟩
 ·rw[Lz] at a
  subst a;exact⟨.inl rfl,c,d.symm⟩
 ·have:x∈[1]:=a
  rw[Lz] at this;subst this;cases f
 ·obtain⟨_,_,_,_,⟨z,b,e⟩⟩:=nV.1 h
  rw[Lz] at b;subst b;cases e
end
theorem DK {m:List Sd}(c:srt l)(d:srt m)(h:∀ s,s∈l↔s∈m):l=m:=by
 have nd:∀ {l:List Sd},srt l->l.Nodup:=λ{l} c=>c.imp λ{a b} g e=>by subst e;omega
 have f:l.Perm m:=(List.perm_ext_iff_of_nodup (nd c) (nd d)).2 h;have k:l.Pairwise λa b=>a.node<b.node:=c
 have j:m.Pairwise λa b=>a.node<b.node:=d
 exact List.Perm.eq_of_pairwise (le:=λa b:Sd=>a.node<b.node) (λa b _ _ i n=>absurd i (by omega)) k j f
def em (s:List UInt8)(n:Nat):List (List UInt8):=(List.range n).map (aU s)
theorem jU (s:List UInt8)(n:Nat):(em s n).length=n:=by unfold em;simp
theorem DM (s:List UInt8)(n:Nat):em s (n+1)=em s n++[aU s n]:=by
 unfold em;rw[List.range_succ,LL];rfl
theorem sA (s:List UInt8)(h:k<n):(em s n).getD k []=aU s k:=by
 unfold em;rw[JF,KX,Mr h];rfl
theorem DN (s:List UInt8){m:Nat}(h:m<=n):(em s n).take m=em s m:=by
 unfold em;rw[<-List.map_take,List.take_range,MS h]
theorem DO {j:Nat}(e:K<=10)(c:i<2 ^ K)(b:me<2 ^ K):me / 2 ^ j=i / 2 ^ j↔bG i me<=j:=by
 obtain⟨k,g,f⟩:=oJ e c b;constructor
 ·intro h
  exact Nx λa=>f j a h.symm
 ·intro h
  obtain⟨d,rfl⟩:=Nat.exists_eq_add_of_le h;rw[Nat.pow_add,<-Lw,<-Lw,g]
theorem DP (l:K<=10)(j:i<2 ^ K)(g:me<2 ^ K)(c:i≠me)(n:0<(cK t i (bG i me - 1)).length)(b:(ixS t i K)[a]?=some k):
  me / 2 ^ (k+1)=i / 2 ^ (k+1)↔kM t i me<=a:=by
 obtain⟨q,p,_,_⟩:=nT l j g c;rw[DO l j g];obtain⟨rest,e⟩:=so t i _ n K (by omega);unfold kM;constructor
 ·intro h
  refine Nx λd=>?_
  rw[e,Kt d] at b;have:=pD t i _ k (Lx b);omega
 ·intro h
  rw[e,Kn h] at b;have f:=pE t i K;rw[e] at f;have o:=(List.pairwise_append.1 f).2.1;rcases Lu.1 (Lx b) with m|m
  ·omega
  ·have:=(Ml.1 o).1 k m
   omega
theorem DQ {own:List Sd}{xs:List Nat}(c:xs.Nodup)(h:srt own)(e:∀ a∈own,∀ x∈xs,a.node≠(x:Int)){r:List Sd}(b:srt r)
  (d:∀ y,y∈r↔y∈own\/∃ a,a<xs.length/\y=⟨((xs.getD a 0:Nat):Int),bo s a⟩):r=cX own s xs:=
 DK b (wW xs own s c h e) λy=>by rw[d,wV]
def fG (t:List Nod)(own:List Sd)(x:Nat):Prop:=∃ s∈own,s.node=(x:Int)/\s.seed.length=32/\aI s.seed=(ats t x).pub
def sC (t:List Nod)(me:Int)(x:Nat):Prop:=(ats t x).kind≠0/\me∉(ats t x).un
def bO (K me:Nat):List Nat:=aL K 0 me++[2*me]
theorem DS (K me:Nat):(bO K me).Nodup:=by
 unfold bO;refine List.nodup_append.2 ⟨qX K me,by simp,λa d b c e=>?_⟩;simp at c;subst c;have:=ik d;omega
theorem DT {own:List Sd}(h:srt own):(own.map (·.node)).Nodup:=MZ.2 (h.imp λ{a b} c=>by omega)
theorem xg {own:List Sd}(h:srt own){a b:Sd}(d:a∈own)(c:b∈own)(e:a.node=b.node):a=b:=by
 have f:=pR own h a d;have g:=pR own h b c;rw[e] at f;cases a;cases b;simp_all
theorem xi:∀ (A B:List Int),A.Nodup->(∀ x∈A,x∈B)->B.length<=A.length->A.Perm B
 | [],B,_,_,h=>by rw[Kg (Nat.le_zero.1 h)]
 | a :: A,B,hn,hs,hl=>by
  obtain⟨s,t,rfl⟩:=List.append_of_mem (hs a (by simp))
  have h1:=Nl.1 hn
  have ih:=xi A (s++t) h1.2 (λx hx=>by
   have:=hs x (by simp[hx])
   rcases Le.1 this with h|h
   ·exact Le.2 (.inl h)
   ·rcases Lu.1 h with e|e
    ·subst e;exact absurd hx h1.1
    ·exact Le.2 (.inr e)) (by simp at hl ⊢;omega)
  exact(ih.cons a).trans List.perm_middle.symm
open Classical in
theorem DU {own:List Sd}(p:aD t K)(m:bc t (me:Int))(u:srt own):
  bZ t K (me:Int) own↔(∀ x∈bO K me,fG t own x\/¬sC t (me:Int) x)/\((bO K me).filter λx=>decide (fG t own x)).length=own.length:=by
 have w:=(p.there_iff me).1 m;have l:∀ a b:Nat,(a:Int)=(b:Int)->a=b:=λa b h=>by omega
 have n:(((bO K me).filter λx=>decide (fG t own x)).map λx:Nat=>(x:Int)).Nodup:=MZ.2 (((DS K me).sublist List.filter_sublist).imp λ{a b} A e=>A (l _ _ e));have B:=DT u;have j:∀ z,z∈((bO K me).filter λx=>decide (fG t own x)).map (λx:Nat=>(x:Int))->z∈own.map (·.node):=λz r=>by
  obtain⟨x,d,rfl⟩:=KN.1 r;obtain⟨s,k,C,_⟩:=Ly (Nn.1 d).2;exact KN.2 ⟨s,k,C⟩
 rw[nV,JX];constructor
 ·rintro⟨_,_,I,H,G⟩
  have f:∀ s∈own,∃ x∈bO K me,(x:Int)=s.node/\fG t own x:=λs h=>by
   obtain⟨a,b,c⟩:=I s h;rcases a with a|⟨x,g,i,o⟩
   ·refine⟨2*me,by unfold bO;simp,by rw[a];omega,s,h,by rw[a];omega,b,?_⟩
    rw[c,a];congr 2
   ·refine⟨x,by unfold bO;simp[g],i,s,h,i.symm,b,?_⟩
    rw[c,<-i,JX]
  refine⟨λx d=>?_,?_⟩
  ·rw[Classical.or_iff_not_imp_right,Ln]
   rintro⟨D,O⟩;have:∃ s∈own,s.node=(x:Int):=by
    unfold bO at d;rcases Le.1 d with d|d
    ·refine H x d ?_ O
     rcases p.odd (ik d) with e|⟨e,_⟩
     ·rw[e] at D;exact absurd rfl D
     ·exact e
    ·simp at d
     subst d;obtain⟨s,a,b⟩:=G;exact⟨s,a,by rw[b];omega⟩
   obtain⟨s,a,b⟩:=this;obtain⟨y,T,F,E⟩:=f s a;have:y=x:=l _ _ (by rw[F,b]);exact this▸E
  ·have v:(((bO K me).filter λx=>decide (fG t own x)).map λx:Nat=>(x:Int)).Perm (own.map (·.node)):=by
    refine(List.perm_ext_iff_of_nodup n B).2 λz=>⟨j z,λr=>?_⟩
    obtain⟨s,k,rfl⟩:=KN.1 r;obtain⟨x,g,i,o⟩:=f s k;exact KN.2 ⟨x,Nn.2 ⟨g,Ke o⟩,i⟩
   have:=v.length_eq;simpa using this
 ·rintro⟨k,C⟩
  have v:(((bO K me).filter λx=>decide (fG t own x)).map λx:Nat=>(x:Int)).Perm (own.map (·.node)):=
   xi _ _ n j (by simp[C])
  have f:∀ s∈own,∃ x∈bO K me,(x:Int)=s.node/\s.seed.length=32/\aI s.seed=(ats t x).pub:=λs h=>by
   have:=v.symm.subset (KN.2 ⟨s,h,rfl⟩);obtain⟨x,d,e⟩:=KN.1 this;obtain⟨Q,P⟩:=Nn.1 d;obtain⟨J,N,M,L⟩:=Ly P;have:J=s:=xg u N h (by rw[M,e]);exact⟨x,Q,e,this▸L⟩
  refine⟨m,u,λs h=>?_,λx d S R=>?_,?_⟩
  ·obtain⟨x,g,i,o,q⟩:=f s h
   refine⟨?_,o,by rw[q,<-i,JX]⟩;unfold bO at g;rcases Le.1 g with g|g
   ·refine .inr ⟨x,g,i,?_⟩
    rcases p.odd (ik g) with e|⟨e,_⟩
    ·rw[e] at q
     have:=congrArg List.length q;rw[gO] at this;cases this
    ·exact e
   ·simp at g
    exact .inl (by rw[<-i,g];omega)
  ·rcases k x (by unfold bO;simp[d]) with⟨s,a,b,_⟩|h
   ·exact⟨s,a,b⟩
   ·exact absurd ⟨by rw[S];decide,R⟩ h
  ·rcases k (2*me) (by unfold bO;simp) with⟨s,a,b,_⟩|h
   ·exact⟨s,a,by rw[b];omega⟩
   ·refine absurd ⟨by rw[w];decide,?_⟩ h
    rcases p.even me with e|⟨_,e,_⟩
    ·rw[e];simp[aX]
    ·rw[e];simp
theorem DV {me:Int}{own:List Sd}(h:bZ t K me own):srt own:=(nV.1 h).2.1
section
open Go.Maps
def eJ:Value->Option (DataW Value × List MemPlace):=λv=>some (.held v,[])
def sdV (x:Int)(q:Value):Value:=.agg #[.int .i64 x,q]
def gW (w:World)(v:Value)(s:Sd):Prop:=∃ q,v=sdV s.node q/\Rd w q s.seed
theorem gW.cs {s:Sd}(h:gW w v s)(k:Cs w w'):gW w' v s:=by
 obtain⟨q,e,r⟩:=h;exact⟨q,e,r.cs k⟩
structure KM (P:Program)(k:TypeId)(w:World)(m n:Nat)(S:Sd->Prop):Prop where
 mk ::
 ex:∃ D,w.ownsMap P k eJ m n D/\(∀ x:Int,Maps.has D (.int .i64 x)=true↔∃ s,S s/\s.node=x)/\∀ s,S s->∃ v,(∀ zd,D.atKey (.int .i64 s.node) zd=.held v)/\gW w v s
 one:∀ s s',S s->S s'->s.node=s'.node->s=s'
section
variable {P : Program} {k : TypeId} {w w' : World} {m n : Nat} {S : Sd -> Prop}
theorem KM.lt (h:KM P k w m n S):m<w.heap.size:=by
 obtain⟨D,a,_⟩:=h.ex;exact a.lt
theorem KM.nosolid (h:KM P k w m n S):¬cA w m:=by
 obtain⟨D,⟨es,c,a,_⟩,_⟩:=h.ex;exact Ar a
theorem KM.made (w:World)(P:Program)(k:TypeId):KM P k (w.alloc (.map #[] 0)) w.heap.size 0 (λ_=>False):=
 ⟨⟨_,World.ownsMap_made w P k eJ,λx=>⟨λh=>by simp[Maps.has] at h,fun⟨s,h,_⟩=>h.elim⟩,λs h=>h.elim⟩,λs a h=>h.elim⟩
theorem KM.kp (h:KM P k w m n S)(c:Kp w w'):KM P k w' m n S:=by
 obtain⟨⟨D,l,j,g⟩,f⟩:=h;refine⟨⟨D,l.kept ⟨c.os,c.tape,c.output,c.size,λi e _=>c.block i e⟩ (row:=none) (by simp),j,λs d=>?_⟩,f⟩;obtain⟨v,a,b⟩:=g s d;exact⟨v,a,b.cs c.cs⟩
theorem KM.mono (h:KM P k w m n S){n':Nat}(a:n<=n'):KM P k w m n' S:=by
 obtain⟨⟨D,e,d,c⟩,b⟩:=h;exact⟨⟨D,e.mono a,d,c⟩,b⟩
theorem KM.congr (h:KM P k w m n S)(a:∀ s,S' s↔S s):KM P k w m n S':=by
 have:S'=S:=funext λs=>propext (a s)
 rw[this];exact h
theorem KM.put {s:Sd}(q:∀ s c,S s->S c->s.node=c.node->s=c)(d:IsMap D)(t:∀ x:Int,Maps.has D (.int .i64 x)=true↔∃ s,S s/\s.node=x)
  (r:∀ s,S s->∃ v,(∀ zd,D.atKey (.int .i64 s.node) zd=.held v)/\gW w v s) (g:Cs w w') (l:gW w v s) (u:w'.ownsMap P k eJ m n (D.put (.int .i64 s.node) (.held v))):
  KM P k w' m n (λy=>y=s\/(S y/\y.node≠s.node)):=by
 have f:WideAt.IsKeyLit (.int .i64 s.node):=trivial;refine⟨⟨_,u,λx=>?_,λy j=>?_⟩,λa b p o e=>?_⟩
 ·by_cases e:x=s.node
  ·subst e
   rw[has_put_same d f];exact⟨λ_=>⟨s,.inl rfl,rfl⟩,λ_=>rfl⟩
  ·rw[has_put_other (λh=>e (by simpa using h)),t x]
   constructor
   ·rintro⟨y,a,b⟩
    exact⟨y,.inr ⟨a,by rw[b];exact e⟩,b⟩
   ·rintro⟨y,a|⟨a,_⟩,b⟩
    ·subst a;exact absurd b.symm e
    ·exact⟨y,a,b⟩
 ·rcases j with rfl|⟨a,b⟩
  ·exact⟨v,λzd=>atKey_put_same d f _ zd,l.cs g⟩
  ·obtain⟨i,A,z⟩:=r y a
   refine⟨i,λzd=>?_,z.cs g⟩;rw[atKey_put_other (λh=>b (by simpa using h))];exact A zd
 ·rcases p with rfl|⟨F,E⟩ <;> rcases o with rfl|⟨C,B⟩
  ·rfl
  ·exact absurd e.symm B
  ·exact absurd e E
  ·exact q a b F C e
theorem KM.drop {x:Int}(l:∀ s c,S s->S c->s.node=c.node->s=c)(p:∀ x:Int,Maps.has D (.int .i64 x)=true↔∃ s,S s/\s.node=x)
  (o:∀ s,S s->∃ v,(∀ zd,D.atKey (.int .i64 s.node) zd=.held v)/\gW w v s) (g:Cs w w') (q:w'.ownsMap P k eJ m n (D.del (.int .i64 x))):
  KM P k w' m n (λy=>S y/\y.node≠x):=by
 refine⟨⟨_,q,λz=>?_,λy d=>?_⟩,λa b j i e=>l a b j.1 i.1 e⟩
 ·by_cases e:z=x
  ·subst e
   rw[has_del_same];exact⟨λh=>(by cases h),fun⟨y,a,b⟩=>absurd b a.2⟩
  ·rw[has_del_other (λh=>e (by simpa using h)),p z]
   constructor
   ·rintro⟨y,a,b⟩
    exact⟨y,⟨a,by rw[b];exact e⟩,b⟩
   ·rintro⟨y,a,b⟩
    exact⟨y,a.1,b⟩
 ·obtain⟨f,t,r⟩:=o y d.1
  refine⟨f,λzd=>?_,r.cs g⟩;rw[atKey_del_other (λh=>d.2 (by simpa using h))];exact t zd
variable {ops : Array Oper} {rest : List Oper} {o : Oper} {a : Act} {Q : Exit -> Act -> World -> Prop} {e : TypeId}
theorem Ep (E:o.guard=none)(f c d:Operand)(t:TypeId)(g:o.op=Op.mapUpdate t f c d)(K:Keyed P k)(z:P.underlying t=some (.map k e))(C:a.eval f=.map (some m))(h:KM P k w m n S)(B:n<maxLen)
  (s:Sd) (v:Value) (u:a.eval c=.int .i64 s.node) (x:a.eval d=v) (b:keyOf P k (.int .i64 s.node)=some (.int .i64 s.node)) (A:gW w v s)
  (F:∀ w',KM P k w' m (n+1) (λy=>y=s\/(S y/\y.node≠s.node))->w.grownBy w' (some m)->wpList P ops Q rest (a.put o.dst undef) w'):wpList P ops Q (o :: rest) a w:=by
 obtain⟨⟨D,j,q,p⟩,l⟩:=h;have i:=(KM.mk ⟨D,j,q,p⟩ l:KM P k w m n S).nosolid;refine wpList_mapUpdate_own w E f c d t g k e K z eJ m n D C j B _ _ _ u x b (.held v) [] rfl λw' o' r=>F w' ?_ r
 exact KM.put l j.isMap q p (Cs.grown r i) A o'
theorem Er (v:o.guard=none)(d c:Operand)(t:TypeId)(f:o.op=Op.call { callee:=Callee.builtin Builtin.delete,args:=#[d,c],argTypes:=#[t,k] })(K:Keyed P k)(s:P.underlying t=some (.map k e))
  (u:a.eval d=.map (some m)) (h:KM P k w m n S) (x:Int) (r:a.eval c=.int .i64 x) (b:keyOf P k (.int .i64 x)=some (.int .i64 x))
  (z:∀ w',KM P k w' m n (λy=>S y/\y.node≠x)->w.grownBy w' (some m)->wpList P ops Q rest (a.put o.dst (.tuple #[])) w'):wpList P ops Q (o :: rest) a w:=by
 obtain⟨⟨D,p,l,j⟩,i⟩:=h;have g:=(KM.mk ⟨D,p,l,j⟩ i:KM P k w m n S).nosolid;refine wpList_delete_own w v d c t k f e K s eJ m n D u p _ _ r b λw' o' q=>z w' ?_ q.grown
 exact KM.drop i l j (Cs.grown q.grown g) o'
theorem xz (y:o.guard=none)(d c:Operand)(t:TypeId)(f:o.op=Op.lookup t d c true)(K:Keyed P k)(r:P.underlying t=some (.map k e))(j:(zeroValue e).run P w=.ok z w)
  (u:a.eval d=.map (some m)) (h:KM P k w m n S) (s:Sd) (g:S s) (l:a.eval c=.int .i64 s.node) (b:keyOf P k (.int .i64 s.node)=some (.int .i64 s.node))
  (A:∀ q,Rd w q s.seed->wpList P ops Q rest (a.put o.dst (.tuple #[sdV s.node q,.bool true])) w):wpList P ops Q (o :: rest) a w:=by
 obtain⟨⟨D,E,C,B⟩,J⟩:=h;obtain⟨v,H,q,rfl,G⟩:=B s g;refine wpList_lookup_own_ok w y d c t f k e K r eJ j (.held z) [] rfl m n D u E _ _ l b λi I p=>?_
 have F:DataW.held i=.held (sdV s.node q):=by
  have:=congrArg (λx=>x.map Prod.fst) p;simpa [eJ,H] using this
 cases F;rw[(C _).2 ⟨s,g,rfl⟩];exact A q G
theorem xA (y:o.guard=none)(f d:Operand)(t:TypeId)(g:o.op=Op.lookup t f d true)(K:Keyed P k)(r:P.underlying t=some (.map k e))(l:(zeroValue e).run P w=.ok z w)
  (v:a.eval f=.map (some m)) (h:KM P k w m n S) (x:Int) (u:∀ s,S s->s.node≠x) (p:a.eval d=.int .i64 x) (c:keyOf P k (.int .i64 x)=some (.int .i64 x))
  (A:wpList P ops Q rest (a.put o.dst (.tuple #[z,.bool false])) w):wpList P ops Q (o :: rest) a w:=by
 obtain⟨⟨D,C,B,H⟩,G⟩:=h;have i:Maps.has D (.int .i64 x)=false:=by
  cases hh:Maps.has D (.int .i64 x)
  ·rfl
  ·obtain⟨s,a,b⟩:=(B x).1 hh
   exact absurd b (u s a)
 refine wpList_lookup_own_ok w y f d t g k e K r eJ l (.held z) [] rfl m n D v C _ _ p c λj F q=>?_
 have E:DataW.held j=.held z:=by
  have:=congrArg (λx=>x.map Prod.fst) q;simpa [eJ,atKey_of_not_has i] using this
 cases E;rw[i];exact A
theorem Es (B:o.guard=none)(i g:Operand)(t:TypeId)(d:o.op=Op.lookup t i g false)(K:Keyed P k)(u:P.underlying t=some (.map k e))(l:(zeroValue e).run P w=.ok z w)
  (A:a.eval i=.map (some m)) (h:KM P k w m n S) (s:Sd) (y:S s) (p:a.eval g=.int .i64 s.node) (c:keyOf P k (.int .i64 s.node)=some (.int .i64 s.node))
  (C:∀ q,Rd w q s.seed->wpList P ops Q rest (a.put o.dst (sdV s.node q)) w):wpList P ops Q (o :: rest) a w:=by
 obtain⟨⟨D,F,M,E⟩,L⟩:=h;obtain⟨v,I,q,rfl,H⟩:=E s y;refine wpList_plain B λN f=>?_
 obtain⟨j,J,b,r⟩:=F.lookup K u l (R:=eJ) (zd:=.held z) (zp:=[]) rfl c;have G:DataW.held j=.held (sdV s.node q):=by
  have:=congrArg (λx=>x.map Prod.fst) r;simpa [eJ,I] using this
 cases G;unfold Oper.wp;simp[execOp,d,A,p,b,Result.andThen];exact f _ _ (C q H)
end
theorem infoSd:(prog.info? 90).map (λi=>(i.zero,i.size,i.bytes))=some (some (.agg #[.int .i64 0,.slice none 0 0]),2,32):=by kernel_rfl
theorem infoSe:(prog.info? 92).map (λi=>(i.zero,i.size,i.bytes))=some (some (.agg #[.slice none 0 0,.slice none 0 0]),2,48):=by kernel_rfl
theorem infoSt:(prog.info? 74).map (λi=>(i.zero,i.size,i.bytes))=some (some (.agg #[.slice none 0 0,.slice none 0 0]),2,48):=by kernel_rfl
theorem infoStp:(prog.info? 99).map (λi=>(i.zero,i.size,i.bytes))=some (some (.agg #[.int .i64 0,.slice none 0 0]),2,32):=by kernel_rfl
theorem infoRI:(prog.info? 34).map (λi=>(i.zero,i.size,i.bytes))=some (some (.slice none 0 0),1,24):=by kernel_rfl
theorem infoBy:(prog.info? 24).map (λi=>(i.zero,i.size,i.bytes))=some (some (.slice none 0 0),1,24):=by kernel_rfl
theorem infoN:(prog.info? 3).map (λi=>(i.zero,i.size,i.bytes))=some (some (.int .i64 0),1,8):=by kernel_rfl
theorem sdK:SK prog 23 90 2:=SK.mk' underlying23 infoSd (by decide) rfl
theorem seK:SK prog 72 92 2:=SK.mk' underlying72 infoSe (by decide) rfl
theorem stK:SK prog 25 74 2:=SK.mk' underlying25 infoSt (by decide) rfl
theorem stpK:SK prog 93 99 2:=SK.mk' underlying93 infoStp (by decide) rfl
theorem riK:SK prog 100 34 1:=SK.mk' underlying100 infoRI (by decide) rfl
theorem byK:SK prog 115 24 1:=SK.mk' underlying115 infoBy (by decide) rfl
theorem nK:SK prog 34 3 1:=SK.mk' underlying34 infoN (by decide) rfl
def shN:Sh Nat where
 k:=1
 pos:=by decide
 R:=λZ w vs x=>vs=[.int .i64 (x:Int)]
 len:=λe=>by rw[e];rfl
 one:=λe=>by rw[e];exact sI rfl
 solid:=λe _=>e
 step:=λe _=>e
theorem aJ.rn {l:List Nat}(h:aJ shN w v l):RN w v l:=by
 obtain⟨a,c,e,q,p,o,n⟩:=h;refine⟨a,c,by rw[Kw];exact e,by rw[Kw];exact q,p,o,λx k i d=>?_⟩;rw[Kw] at d;obtain⟨b,j,f,_,m⟩:=n (by omega);rw[k] at f;cases f;obtain⟨vs,g,rfl⟩:=m i _ (JG d);have:=g 0 _ rfl;rw[Addr.add_mid];simpa [shN,iv] using this
theorem GZ.anyN {a:Nat->Prop}{t:List Nat}(h:GZ shN e Z w B v t):GZ shN e a w B v t:=h
theorem SE.litZ {S:Sh α}{vs:List Value}{x:α}{cs:Array Value}(e:TypeId)(h:S.R Z w vs x)(c:cs.toList=vs):SE S Z (w.alloc (.cells cs e)) (.slice (some ⟨w.heap.size,0,none⟩) 1 1) [x]:=by
 refine⟨_,1,rfl,JO _,by unfold maxLen;omega,λh=>(by cases h),λ_=>⟨w.heap.size,0,rfl,by simp,λi y a=>?_⟩⟩;have f:i<1:=(Ks.1 a).1;obtain rfl:i=0:=by omega
 cases a;refine⟨vs,λj z b=>?_,S.step h (NY ((NQ w).alloc _))⟩;have d:=(Oa w e cs).cell j;subst c;rw[show 0+0*S.k+j=j by omega,d,<-Nv];exact b
theorem lW (b:∀ x n c,v=.slice (some x) n c->0<n->x.block<w.heap.size)(a:∀ g,Z g->w.heap.size<=g):br Z v:=λx n c e f d=>by
 have i:=b x n c e f;have h:=a _ d;omega
theorem dZ {C:Nat}(b:∀ g,v.ownBlock=some g->C<=g)(a:∀ g,Z g->g<C):br Z v:=λx n c e i d=>by
 have h:=b x.block (by rw[e];rfl);have f:=a _ d;omega
theorem GZ.se {S:Sh α}{t:List α}(h:GZ S e Z w B v t):SE S Z w v t:=by
 by_cases o:0<t.length
 ·obtain⟨g,c,rfl,l,d,a,n,m⟩:=h.form o
  refine⟨_,c,rfl,a,n,λh=>(by cases h),λ_=>⟨g,0,rfl,d,λi x k=>?_⟩⟩;rw[Lf];obtain⟨vs,j,f⟩:=m i x k;exact⟨vs,j,S.mono f λ_ h=>.inr h⟩
 ·have b:t=[]:=Kg (by omega)
  subst b;obtain⟨us,a,_⟩:=h;rcases a.2 with⟨rfl,_⟩|⟨g,cap,cur,rfl,l,d,hn,hm,hs,b⟩
  ·exact SE.nil Z w
  ·exact⟨_,cap,rfl,hn,hm,λh=>(by cases h),λh=>absurd h (by simp)⟩
theorem RZ.kp {l:List UInt8}(h:RZ Z w v l)(k:Kp w w'):RZ Z w' v l:=h.step (NY k)
theorem SZ.kp {S:Sh α}{l:List α}(h:SZ S Z w v l)(k:Kp w w'):SZ S Z w' v l:=h.step (NY k)
theorem SL.nodeK (h:SL w v l)(d:i<l.length):
  ∃ b a c q,v=.slice (some ⟨b,a,none⟩) l.length c/\b<w.heap.size/\∀ W,Kp w W->W.cell? ⟨b,a+i*2,none⟩=some (.int .i64 (aG l i).node)/\W.cell? ⟨b,a+i*2+1,none⟩=some q/\Rd W q (aG l i).seed:=by
 obtain⟨b,a,c,q,e,f,j,g,r⟩:=SL.node h d;exact⟨b,a,c,q,e,f,λW k=>⟨k.cell j,k.cell g,r.kp k⟩⟩
theorem SZ.nodeZ (h:SZ bQ Z w v l)(f:i<l.length):
  ∃ b d c q,v=.slice (some ⟨b,d,none⟩) l.length c/\b<w.heap.size/\(∀ W,Kp w W->W.cell? ⟨b,d+i*2,none⟩=some (.int .i64 (aG l i).node)/\W.cell? ⟨b,d+i*2+1,none⟩=some q/\Rd W q (aG l i).seed)/\br Z q:=by
 obtain⟨a,c,rfl,t,s⟩:=Ob h.1;obtain⟨b,d,rfl,o,n⟩:=SE.at h.1 (by omega);obtain⟨vs,m,j⟩:=n i l[i] (JG f);obtain⟨q,r,p,g⟩:=uj m j;have e:aG l i=l[i]:=by unfold aG;rw[JF,JG f];rfl
 rw[e];exact⟨b,d,c,q,rfl,o,λW k=>⟨k.cell r,k.cell p,g.1.kp k⟩,g.2⟩
theorem EL.nodeK {l:List Se}(h:EL w v l)(g:i<l.length):
  ∃ b a c p q,v=.slice (some ⟨b,a,none⟩) l.length c/\b<w.heap.size/\∀ W,Kp w W->W.cell? ⟨b,a+i*2,none⟩=some p/\W.cell? ⟨b,a+i*2+1,none⟩=some q/\Rd W p (aH l i).half/\Rd W q (aH l i).b:=by
 obtain⟨b,a,c,p,q,e,j,n,m,f,d⟩:=EL.node h g;exact⟨b,a,c,p,q,e,j,λW k=>⟨k.cell n,k.cell m,f.kp k,d.kp k⟩⟩
theorem dl.nodeK {l:List St}(h:dl w v l)(g:i<l.length):
  ∃ b a c p q,v=.slice (some ⟨b,a,none⟩) l.length c/\b<w.heap.size/\∀ W,Kp w W->W.cell? ⟨b,a+i*2,none⟩=some p/\W.cell? ⟨b,a+i*2+1,none⟩=some q/\Rd W p (am l i).pub/\EL W q (am l i).fors:=by
 obtain⟨b,a,c,p,q,e,j,n,m,f,d⟩:=dl.node h g;exact⟨b,a,c,p,q,e,j,λW k=>⟨k.cell n,k.cell m,f.kp k,Od d k⟩⟩
section
variable {P : Program} {k : TypeId} {w w' : World} {m n : Nat} {S : Sd -> Prop}
variable {ops : Array Oper} {o : Oper} {a : Act} {K' : Act -> World -> Prop} {Q : Exit -> Act -> World -> Prop} {e : TypeId} {E : Prop}
theorem zq (t:TypeId)(K:Keyed P k)(o:P.underlying t=some (.map k e))(h:KM P k w m n S)(q:n<maxLen)(s:Sd)(v:Value)(b:keyOf P k (.int .i64 s.node)=some (.int .i64 s.node))(p:gW w v s):
  ∃ w',(Instr.mapUpdate t (.map (some m)) (.int .i64 s.node) v).run P w=.ok () w'/\KM P k w' m (n+1) (λy=>y=s\/(S y/\y.node≠s.node))/\w.grownBy w' (some m):=by
 obtain⟨⟨D,d,j,i⟩,g⟩:=h;have c:=(KM.mk ⟨D,d,j,i⟩ g:KM P k w m n S).nosolid;obtain⟨w',a,l,f⟩:=d.update K o q b (show eJ v=some (.held v,[]) from rfl);exact⟨w',a,KM.put g d.isMap j i (Cs.grown f c) p l,f⟩
theorem tu (t:TypeId)(K:Keyed P k)(g:P.underlying t=some (.map k e))(d:(zeroValue e).run P w=.ok z w)(h:KM P k w m n S)(s:Sd)(i:S s)(b:keyOf P k (.int .i64 s.node)=some (.int .i64 s.node)):
  ∃ q,(Instr.lookup t (.map (some m)) (.int .i64 s.node) false).run P w=.ok (sdV s.node q) w/\Rd w q s.seed:=by
 obtain⟨⟨D,l,A,j⟩,y⟩:=h;obtain⟨v,r,q,rfl,p⟩:=j s i;obtain⟨c,u,a,f⟩:=l.lookup K g d (R:=eJ) (zd:=.held z) (zp:=[]) rfl b;have o:DataW.held c=.held (sdV s.node q):=by
  have:=congrArg (λx=>x.map Prod.fst) f;simpa [eJ,r] using this
 cases o;exact⟨q,a,p⟩
end
def cG (w:World)(g:Nat):Prop:=∀ (x:Addr) (n:Int),x.block=g->w.cell? x≠some (.int .u8 n)
theorem cG.map (h:¬cA w g):cG w g:=λx n e a=>h (e▸cA.of_cell a)
theorem cG.box {T:TypeId}{cs:Array Value}(h:Bx w g T cs)(c:∀ (j:Nat) (z:Value),cs[j]?=some z->∀ n,z≠.int .u8 n):cG w g:=λx n e a=>by
 subst e;unfold World.cell? at a;have b:w.heap[x.block]?=some (.cells cs T (0,0)):=h;rw[b] at a;dsimp only at a
 split at a
 ·cases a
 ·exact c _ _ a n rfl
theorem Rd.free8 {l:List UInt8}(h:Rd w v l)(b:cG w g):br (λk=>k=g) v:=λx n c e i d=>by
 obtain⟨q,p,a,o,m,j,f⟩:=h;rw[e] at a;simp only[JR] at a;obtain⟨rfl,rfl,rfl⟩:=a;exact b _ _ (by rw[fx];exact d) (f x rfl 0 i)
theorem Rd.step8 {l:List UInt8}(h:Rd w v l)(a:az Y w w')(d:∀ g,Y g->cG w g):Rd w' v l:=
 h.stepF a λx n c e f b=>h.free8 (d _ b) x n c e f rfl
theorem aJ.bytesAt {l:List (List UInt8)}(h:aJ gz w v l)(m:∀ g,Y g->cG w g)(k:br Y v)(j:i<l.length):
  ∃ b a c q,v=.slice (some ⟨b,a,none⟩) l.length c/\(∀ x n p,q=.slice (some x) n p->0<n->x.block<w.heap.size)/\∀ W,az Y w W->W.cell? ⟨b,a+i,none⟩=some q/\Rd W q (kE l i):=by
 obtain⟨b,a,c,q,e,s,o,r⟩:=aJ.bs h j;exact⟨b,a,c,q,e,r.inside,λW d=>⟨d.cell o (λf=>k ⟨b,a,none⟩ l.length c e (by omega) f),r.step8 d m⟩⟩
structure bj (P:Program)(k:TypeId)(Z:Nat->Prop)(w:World)(m n:Nat)(S:Sd->Prop):Prop where
 mk ::
 ex:∃ D,w.ownsMap P k eJ m n D/\(∀ x:Int,Maps.has D (.int .i64 x)=true↔∃ s,S s/\s.node=x)/\∀ s,S s->∃ q,(∀ zd,D.atKey (.int .i64 s.node) zd=.held (sdV s.node q))/\RZ Z w q s.seed
 one:∀ s s',S s->S s'->s.node=s'.node->s=s'
section
variable {P : Program} {k : TypeId} {Z : Nat -> Prop} {w w' : World} {m n : Nat} {S : Sd -> Prop}
theorem bj.km (h:bj P k Z w m n S):KM P k w m n S:=by
 obtain⟨⟨D,g,f,e⟩,d⟩:=h;refine⟨⟨D,g,f,λs c=>?_⟩,d⟩;obtain⟨q,a,b⟩:=e s c;exact⟨_,a,q,rfl,b.1⟩
theorem KM.kz (h:KM P k w m n S):bj P k (λg=>w.heap.size<=g) w m n S:=by
 obtain⟨⟨D,j,i,f⟩,d⟩:=h;refine⟨⟨D,j,i,λs b=>?_⟩,d⟩;obtain⟨v,a,q,rfl,r⟩:=f s b;exact⟨q,a,r,λx n c e l o=>by have:=r.inside x n c e l;omega⟩
theorem bj.mono {b:Nat->Prop}(h:bj P k Z w m n S)(c:∀ g,b g->Z g):bj P k b w m n S:=by
 obtain⟨⟨D,j,i,f⟩,e⟩:=h;refine⟨⟨D,j,i,λs d=>?_⟩,e⟩;obtain⟨q,a,r⟩:=f s d;exact⟨q,a,r.mono c⟩
theorem bj.congr (h:bj P k Z w m n S)(a:∀ s,S' s↔S s):bj P k Z w m n S':=by
 have:S'=S:=funext λs=>propext (a s)
 rw[this];exact h
theorem bj.olds (h:bj P k Z w m n S):bj P k (λg=>Z g\/w.heap.size<=g) w m n S:=by
 obtain⟨⟨D,i,f,e⟩,d⟩:=h;refine⟨⟨D,i,f,λs b=>?_⟩,d⟩;obtain⟨q,a,r⟩:=e s b;exact⟨q,a,r.solid λg c=>c.imp id λc b=>by have:=b.lt;omega⟩
theorem bj.step (h:bj P k Z w m n S)(d:az Y w w')(o:∀ g,Y g->Z g\/cG w g)(i:¬Y m):bj P k Z w' m n S:=by
 have j:=h.km.lt;obtain⟨⟨D,⟨es,c,z,t⟩,y,v⟩,u⟩:=h;refine⟨⟨D,⟨es,c,(d.block m j i).trans z,t⟩,y,λs b=>?_⟩,u⟩;obtain⟨q,a,r⟩:=v s b;exact⟨q,a,r.1.stepF d λx n c e f l=>(o _ l).elim (r.2 x n c e f) λp=>r.1.free8 p x n c e f rfl,r.2⟩
theorem bj.kp (h:bj P k Z w m n S)(a:Kp w w'):bj P k Z w' m n S:=h.step (Y:=λ_=>False) (NY a) (λg b=>b.elim) (λh=>h)
theorem bj.moved {c:Value}(h:bj P k (λg=>some g=v.ownBlock) w m n S)(a:w.grownBy w' v.ownBlock)(b:c.ownBlock=v.ownBlock\/c.ownBlock=some w.heap.size)(i:some m≠v.ownBlock):bj P k (λg=>some g=c.ownBlock) w' m n S:=by
 have j:=h.olds.step (Y:=λg=>some g=v.ownBlock) ⟨a.os,a.tape,a.output,a.size,λq d f=>a.block q d λe=>f e⟩ (λg a=>.inl (.inl a)) i;refine j.mono λg e=>?_
 rcases b with b|b
 ·exact .inl (by rw[<-b];exact e)
 ·rw[b] at e
  simp only[Ky] at e;exact .inr (by omega)
theorem Io {t:TypeId}(K:Keyed P k)(C:P.underlying t=some (.map k e))(h:bj P k Z w m n S)(E:n<maxLen)(s:Sd)(q:Value)(f:keyOf P k (.int .i64 s.node)=some (.int .i64 s.node))(c:RZ Z w q s.seed):
  ∃ w',(Instr.mapUpdate t (.map (some m)) (.int .i64 s.node) (.agg #[.int .i64 s.node,q])).run P w=.ok () w'/\bj P k Z w' m (n+1) (λy=>y=s\/(S y/\y.node≠s.node))/\w.grownBy w' (some m):=by
 have i:=h.km.nosolid;obtain⟨⟨D,g,v,u⟩,F⟩:=h;obtain⟨w',d,p,o⟩:=g.update K C E f (show eJ (.agg #[.int .i64 s.node,q])=some (.held (sdV s.node q),[]) from rfl);have r:WideAt.IsKeyLit (.int .i64 s.node):=trivial;have l:Cs w w':=Cs.grown o i;have j:=KM.put (w:=w) (w':=w') (m:=m) (n:=n+1) F g.isMap v (λs c=>by
  obtain⟨q,a,b⟩:=u s c;exact⟨_,a,q,rfl,b.1⟩) l ⟨q,rfl,c.1⟩ p
 refine⟨w',d,⟨⟨_,p,?_,λy B=>?_⟩,j.one⟩,o⟩
 ·intro x
  by_cases e:x=s.node
  ·subst e
   rw[has_put_same g.isMap r];exact⟨λ_=>⟨s,.inl rfl,rfl⟩,λ_=>rfl⟩
  ·rw[has_put_other (λh=>e (by simpa using h)),v x]
   constructor
   ·rintro⟨y,a,b⟩
    exact⟨y,.inr ⟨a,by rw[b];exact e⟩,b⟩
   ·rintro⟨y,a|⟨a,_⟩,b⟩
    ·subst a;exact absurd b.symm e
    ·exact⟨y,a,b⟩
 ·rcases B with rfl|⟨a,b⟩
  ·exact⟨q,λzd=>atKey_put_same g.isMap r _ zd,c.1.cs l,c.2⟩
  ·obtain⟨A,G,z⟩:=u y a
   refine⟨A,λzd=>?_,z.1.cs l,z.2⟩;rw[atKey_put_other (λh=>b (by simpa using h))];exact G zd
end
end
theorem aJ.old {S:Sh α}{l:List α}(h:aJ S w v l):SZ S (λg=>w.heap.size<=g) w v l:=
 ⟨SE.solidly h λg f=>.inr λa=>by have:=a.lt;omega,λx n c e b d=>by have:=SE.inside h x n c e b;omega⟩
theorem SZ.olds {S:Sh α}{l:List α}(h:SZ S Z w v l):SZ S (λg=>Z g\/w.heap.size<=g) w v l:=
 ⟨h.1.solidly λg b=>b.imp id λb f=>by have:=f.lt;omega,λx n c e d a=>a.elim (λa=>h.2 x n c e d a) λa=>by have:=h.1.inside x n c e d;omega⟩
theorem IM (v:Value)(t:List St)(Z:Nat->Prop)(w:World)(j:SZ dc Z w v t)(y:t.length<=100000):
  Calls prog 121 #[v] w λe w'=>(∃ i,e=.returned i/\GZ dc 74 (λg=>Z g\/w.heap.size<g) w' w.heap.size i t)/\Kp w w':=by
 have q:∀ (w:World) (a:Option Addr) (n c n' o:Nat),(binOp .eql 25 (.slice a n c) (.slice none n' o)).run prog w=.ok (.bool a.isNone) w:=λw a n c n' o=>Lib.run_eql_slice_nil w _ _ a n c n' o underlying25
 obtain⟨a,c,rfl,z,x,b,d⟩:=id j.1
 cases a with
 | none=>
  have m:=b rfl
  have l:t=[]:=Kg (by omega)
  subst l m
  go_enter func121,ntmps121
  go_wp2_with fail
  go_ret
  exact⟨⟨_,rfl,GZ.nil _ _ _⟩,NQ _⟩
 | some a=>
  have u:Hid (SE dc (λg=>some g=(Value.slice (some ⟨w.heap.size,0,none⟩) 0 0).ownBlock\/(Z g\/w.heap.size<g)) (w.alloc (.cells #[] 74)) (.slice (some a) t.length c) t):=
   (SZ.step (j.olds) (NY ((NQ w).alloc _))).1.mono λg r=>r.elim (λe=>by simp[Value.ownBlock] at e;exact .inr (by omega)) λh=>h.imp id λh=>by omega
  have f:([]:List St).length+t.length<=1000000:=by simp;omega
  clear j d b
  go_enter func121,ntmps121
  go_wp2_with(at_builtin;refine fL (S:=dc) (Z:=λg=>Z g\/w.heap.size<g) stK rfl _ _ rfl w.heap.size _ [] rfl (GZ.empty _ w) _ t rfl u.out f (by simp) ?_;intro i w' o' s _)
  go_ret
  exact⟨⟨_,rfl,by simpa using o'⟩,NS (v:=.slice (some ⟨w.heap.size,0,none⟩) 0 0) ((NQ _).alloc _) s (by intro k p;simp[Value.ownBlock] at p;omega)⟩
theorem IO (v:Value)(t:List Se)(Z:Nat->Prop)(w:World)(j:SZ dS Z w v t)(y:t.length<=100000):
  Calls prog 122 #[v] w λe w'=>(∃ i,e=.returned i/\GZ dS 92 (λg=>Z g\/w.heap.size<g) w' w.heap.size i t)/\Kp w w':=by
 have q:∀ (w:World) (a:Option Addr) (n c n' o:Nat),(binOp .eql 72 (.slice a n c) (.slice none n' o)).run prog w=.ok (.bool a.isNone) w:=λw a n c n' o=>Lib.run_eql_slice_nil w _ _ a n c n' o underlying72
 obtain⟨a,c,rfl,z,x,b,d⟩:=id j.1
 cases a with
 | none=>
  have m:=b rfl
  have l:t=[]:=Kg (by omega)
  subst l m
  go_enter func122,ntmps122
  go_wp2_with fail
  go_ret
  exact⟨⟨_,rfl,GZ.nil _ _ _⟩,NQ _⟩
 | some a=>
  have u:Hid (SE dS (λg=>some g=(Value.slice (some ⟨w.heap.size,0,none⟩) 0 0).ownBlock\/(Z g\/w.heap.size<g)) (w.alloc (.cells #[] 92)) (.slice (some a) t.length c) t):=
   (SZ.step (j.olds) (NY ((NQ w).alloc _))).1.mono λg r=>r.elim (λe=>by simp[Value.ownBlock] at e;exact .inr (by omega)) λh=>h.imp id λh=>by omega
  have f:([]:List Se).length+t.length<=1000000:=by simp;omega
  clear j d b
  go_enter func122,ntmps122
  go_wp2_with(at_builtin;refine fL (S:=dS) (Z:=λg=>Z g\/w.heap.size<g) seK rfl _ _ rfl w.heap.size _ [] rfl (GZ.empty _ w) _ t rfl u.out f (by simp) ?_;intro i w' o' s _)
  go_ret
  exact⟨⟨_,rfl,by simpa using o'⟩,NS (v:=.slice (some ⟨w.heap.size,0,none⟩) 0 0) ((NQ _).alloc _) s (by intro k p;simp[Value.ownBlock] at p;omega)⟩

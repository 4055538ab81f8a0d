import Derived.Test.YthmhklmkgkfcpaaGreatDoorV17
import Derived.Sort.KeysCollected
set_option linter.all false
set_option maxHeartbeats 8000000
set_option maxRecDepth 100000
namespace Go.Proofs.YthmhklmkgkfcpaaGreatDoor
open Go.Proofs.Tryz Go.RowKit
variable {D:DataW Value}{K b i me o x:Nat}{Z a:Nat->Prop}{e:TypeId}{l s:List UInt8}{t:List Nod}{v z:Value}{vs:List Value}{w w':World}{α:Type}
structure Sd where
 node:Int
 seed:List UInt8
structure Se where
 half:List UInt8
 b:List UInt8
structure St where
 pub:List UInt8
 fors:List Se
structure Pa where
 pub:List UInt8
 step:List St
def RZ (Z:Nat->Prop)(w:World)(v:Value)(l:List UInt8):Prop:=Rd w v l/\bk Z v
theorem RZ.mono (h:RZ Z w v l)(b:∀ g,a g->Z g):RZ a w v l:=⟨h.1,h.2.mono b⟩
theorem RZ.solid (h:RZ Z w v l)(b:∀ g,a g->Z g\/¬bO w g):RZ a w v l:=⟨h.1,h.2.solid h.1.solid b⟩
theorem RZ.step (h:RZ Z w v l)(a:aj Z w w'):RZ Z w' v l:=⟨h.1.stepF a h.2,h.2⟩
theorem RZ.of (h:Rd w v l):RZ noB w v l:=⟨h,bk.none v⟩
theorem RZ.one (h:RZ Z w v l):v.oneCell'=true:=by
 obtain⟨a,c,rfl,_⟩:=h.1.shape;rfl
theorem SZ.one {S:Sh α}{l:List α}(h:SZ S Z w v l):v.oneCell'=true:=by
 obtain⟨a,c,rfl,_⟩:=h.1.shape;rfl
theorem lK {a b:Value}(e:a.oneCell'=true)(d:b.oneCell'=true):∀ z∈[a,b],z.oneCell'=true:=by
 intro z c;simp only[JP,Lk,or_false] at c;rcases c with rfl|rfl
 ·exact e
 ·exact d
def fu:Sh Sd where
 k:=2
 pos:=by decide
 R:=λZ w vs x=>∃ q,vs=[.int .i64 x.node,q]/\RZ Z w q x.seed
 len:=fun⟨_,e,_⟩=>by rw[e];rfl
 one:=fun⟨_,e,h⟩=>by rw[e];exact lK rfl h.one
 solid:=fun⟨q,e,h⟩ hz=>⟨q,e,h.solid hz⟩
 step:=fun⟨q,e,h⟩ hs=>⟨q,e,h.step hs⟩
def dl:Sh Se where
 k:=2
 pos:=by decide
 R:=λZ w vs x=>∃ p q,vs=[p,q]/\RZ Z w p x.half/\RZ Z w q x.b
 len:=fun⟨_,_,e,_⟩=>by rw[e];rfl
 one:=fun⟨_,_,e,h1,h2⟩=>by rw[e];exact lK h1.one h2.one
 solid:=fun⟨p,q,e,h1,h2⟩ hz=>⟨p,q,e,h1.solid hz,h2.solid hz⟩
 step:=fun⟨p,q,e,h1,h2⟩ hs=>⟨p,q,e,h1.step hs,h2.step hs⟩
def bJ:Sh St where
 k:=2
 pos:=by decide
 R:=λZ w vs x=>∃ p q,vs=[p,q]/\RZ Z w p x.pub/\SZ dl Z w q x.fors
 len:=fun⟨_,_,e,_⟩=>by rw[e];rfl
 one:=fun⟨_,_,e,h1,h2⟩=>by rw[e];exact lK h1.one h2.one
 solid:=fun⟨p,q,e,h1,h2⟩ hz=>⟨p,q,e,h1.solid hz,h2.solidly hz⟩
 step:=fun⟨p,q,e,h1,h2⟩ hs=>⟨p,q,e,h1.step hs,h2.step hs⟩
theorem zz {x:Sd}(a:w.rangeAt b o vs)(h:fu.R Z w vs x):∃ q,w.cell? ⟨b,o,none⟩=some (.int .i64 x.node)/\w.cell? ⟨b,o+1,none⟩=some q/\RZ Z w q x.seed:=by
 obtain⟨q,rfl,h⟩:=h;exact⟨q,a 0 _ rfl,a 1 _ rfl,h⟩
theorem qc {x:Se}(a:w.rangeAt b o vs)(h:dl.R Z w vs x):∃ p q,w.cell? ⟨b,o,none⟩=some p/\w.cell? ⟨b,o+1,none⟩=some q/\RZ Z w p x.half/\RZ Z w q x.b:=by
 obtain⟨p,q,rfl,h⟩:=h;exact⟨p,q,a 0 _ rfl,a 1 _ rfl,h⟩
theorem nW {x:St}(a:w.rangeAt b o vs)(h:bJ.R Z w vs x):∃ p q,w.cell? ⟨b,o,none⟩=some p/\w.cell? ⟨b,o+1,none⟩=some q/\RZ Z w p x.pub/\SZ dl Z w q x.fors:=by
 obtain⟨p,q,rfl,h⟩:=h;exact⟨p,q,a 0 _ rfl,a 1 _ rfl,h⟩
def SL (w:World)(v:Value)(l:List Sd):Prop:=aH fu w v l
def EL (w:World)(v:Value)(l:List Se):Prop:=aH dl w v l
def eG (w:World)(v:Value)(l:List St):Prop:=aH bJ w v l
structure PIn (w:World)(x y:Value)(p:Pa):Prop where
 mk ::
 pub:Rd w x p.pub
 step:aH bJ w y p.step
theorem PIn.kp {x y:Value}{p:Pa}(h:PIn w x y p)(k:Kp w w'):PIn w' x y p:=⟨h.pub.kp k,aH.kp h.step k⟩
def aK (l:List Sd)(i:Nat):Sd:=l.getD i ⟨0,[]⟩
def aM (l:List Se)(i:Nat):Se:=l.getD i ⟨[],[]⟩
def am (l:List St)(i:Nat):St:=l.getD i ⟨[],[]⟩
theorem SL.node {l:List Sd}(h:SL w v l)(f:i<l.length):
  ∃ b d c q,v=.slice (some ⟨b,d,none⟩) l.length c/\b<w.heap.size/\w.cell? ⟨b,d+i*2,none⟩=some (.int .i64 (aK l i).node)/\w.cell? ⟨b,d+i*2+1,none⟩=some q/\Rd w q (aK l i).seed:=by
 obtain⟨a,c,rfl,s,r⟩:=SE.shape h;obtain⟨b,d,rfl,m,k⟩:=SE.at h (by omega);obtain⟨vs,j,g⟩:=k i l[i] (Iy f);obtain⟨q,p,o,n⟩:=zz j g;have e:aK l i=l[i]:=by unfold aK;rw[Iw,Iy f];rfl
 rw[e];exact⟨b,d,c,q,rfl,m,p,o,n.1⟩
theorem EL.node {l:List Se}(h:EL w v l)(f:i<l.length):
  ∃ b d c p q,v=.slice (some ⟨b,d,none⟩) l.length c/\b<w.heap.size/\w.cell? ⟨b,d+i*2,none⟩=some p/\w.cell? ⟨b,d+i*2+1,none⟩=some q/\Rd w p (aM l i).half/\Rd w q (aM l i).b:=by
 obtain⟨a,c,rfl,u,t⟩:=SE.shape h;obtain⟨b,d,rfl,m,k⟩:=SE.at h (by omega);obtain⟨vs,j,g⟩:=k i l[i] (Iy f);obtain⟨p,q,s,r,o,n⟩:=qc j g;have e:aM l i=l[i]:=by unfold aM;rw[Iw,Iy f];rfl
 rw[e];exact⟨b,d,c,p,q,rfl,m,s,r,o.1,n.1⟩
theorem eG.node {l:List St}(h:eG w v l)(f:i<l.length):
  ∃ b d c p q,v=.slice (some ⟨b,d,none⟩) l.length c/\b<w.heap.size/\w.cell? ⟨b,d+i*2,none⟩=some p/\w.cell? ⟨b,d+i*2+1,none⟩=some q/\Rd w p (am l i).pub/\EL w q (am l i).fors:=by
 obtain⟨a,c,rfl,u,t⟩:=SE.shape h;obtain⟨b,d,rfl,m,k⟩:=SE.at h (by omega);obtain⟨vs,j,g⟩:=k i l[i] (Iy f);obtain⟨p,q,s,r,o,n⟩:=nW j g;have e:am l i=l[i]:=by unfold am;rw[Iw,Iy f];rfl
 rw[e];exact⟨b,d,c,p,q,rfl,m,s,r,o.1,n.1⟩
theorem SE.lit1 {S:Sh α}{x:α}{cs:Array Value}(e:TypeId)(h:S.R noB w vs x)(c:cs.toList=vs):aH S (w.alloc (.cells cs e)) (.slice (some ⟨w.heap.size,0,none⟩) 1 1) [x]:=by
 refine⟨_,1,rfl,IB _,by unfold maxLen;omega,λh=>(by cases h),λ_=>⟨w.heap.size,0,rfl,by simp,λi y a=>?_⟩⟩;have f:i<1:=(Jk.1 a).1;obtain rfl:i=0:=by omega
 cases a;refine⟨vs,λj z b=>?_,S.kp h ((Kp.refl w).alloc _)⟩;have d:=(Bx.new w e cs).cell j;subst c;rw[show 0+0*S.k+j=j by omega,d,<-Mb];exact b
def oP:List UInt8:=[108,111,99,107]
def oQ:List UInt8:=[116,97,103]
def ij (key:List UInt8):List UInt8:=cL key oP [] 16
def ik (key:List UInt8):List UInt8:=cL key oQ [] 32
theorem uM (key:List UInt8):(ij key).length=16:=by
 exact(congrArg List.length (kN (n:=16) key (cN oP [] 16) (by omega)).2).trans (mi _ (iK _ _) 16)
theorem uN (key:List UInt8):(ik key).length=32:=by
 exact(congrArg List.length (kN (n:=32) key (cN oQ [] 32) (by omega)).2).trans (mi _ (iK _ _) 32)
def mB (key:List UInt8):Int:=if key.length=32 then 0 else 1
def mC (key:List UInt8):List UInt8:=if key.length=32 then ij key else []
def mD (key:List UInt8):List UInt8:=if key.length=32 then ik key else []
def Cc (nonce aad s:List UInt8):List UInt8:=aO aad++(nonce++s)
def el (key nonce aad s:List UInt8):List UInt8:=eh (ik key) (Cc nonce aad s)
theorem Cd (key a b s:List UInt8):(el key a b s).length=32:=oI _ _
def dO (key nonce b:List UInt8):List UInt8:=cU (eD (ij key)) nonce b
def fh (key nonce aad b:List UInt8):List UInt8:=dO key nonce b++el key nonce aad (dO key nonce b)
def okK (key nonce:List UInt8):Prop:=key.length=32/\nonce.length=12
instance (key nonce:List UInt8):Decidable (okK key nonce):=by unfold okK;infer_instance
def oR (key nonce:List UInt8):Int:=if okK key nonce then 0 else 1
def oU (key nonce aad b:List UInt8):List UInt8:=if okK key nonce then fh key nonce aad b else []
def fi (key nonce aad b:List UInt8):Int:=
 if okK key nonce then (if b.length<32 then 3 else if el key nonce aad (b.take (b.length - 32))=b.drop (b.length - 32) then 0 else 5) else 1
def fB (key nonce aad b:List UInt8):List UInt8:=if fi key nonce aad b=0 then dO key nonce (b.take (b.length - 32)) else []
theorem qT (key a b:List UInt8):(dO key a b).length=b.length:=mA _ _ _
theorem qU (key a c b:List UInt8):(fh key a c b).length=b.length+32:=by
 unfold fh;rw[IE,qT,Cd]
theorem Ce (key a c b:List UInt8):(fh key a c b).take b.length=dO key a b/\(fh key a c b).drop b.length=el key a c (dO key a b):=by
 unfold fh;have h:=qT key a b;exact⟨by rw[Kf (by omega),Jm (by omega)],by rw[Kg (by omega),Lw (by omega),Js]⟩
theorem Cf (K a b:List UInt8):cU K a (cU K a b)=b:=by
 refine kP b.length _ _ (by rw[mA,mA]) rfl λj c=>?_
 rw[uL _ _ _ _ (by rw[mA];exact c)];unfold gD;rw[uL _ _ _ _ c];unfold gD;rw[Mn,Ma,UInt8.xor_zero]
theorem Cg {key a:List UInt8}(c b:List UInt8)(h:okK key a):fi key a c (fh key a c b)=0/\fB key a c (fh key a c b)=b:=by
 have d:=qU key a c b;obtain⟨p1,p2⟩:=Ce key a c b;have e:fi key a c (fh key a c b)=0:=by
  unfold fi;rw[if_pos h,if_neg (by omega),d,Km,p1,p2,if_pos rfl]
 refine⟨e,?_⟩;unfold fB;rw[if_pos e,d,Km,p1];exact Cf _ _ _
def uO (base:List UInt8)(n:Int):Prop:=base.length=12/\0<=n/\n<=4294967295
instance (base:List UInt8) (n:Int):Decidable (uO base n):=by unfold uO;infer_instance
def pubS:List UInt8:=[112,117,98,108,105,99]
def Ch:List UInt8:=[107,101,121]
def Ci:List UInt8:=[110,111,110,99,101]
def aG (seed:List UInt8):List UInt8:=cL seed pubS [] 32
theorem mE (k l c:List UInt8):(cL k l c 32).length=32:=
 (congrArg List.length (kN (n:=32) k (cN l c 32) (by omega)).2).trans (mi _ (iK _ _) 32)
theorem Cj (k l c:List UInt8):(cL k l c 12).length=12:=
 (congrArg List.length (kN (n:=12) k (cN l c 12) (by omega)).2).trans (mi _ (iK _ _) 12)
theorem fT (seed:List UInt8):(aG seed).length=32:=mE _ _ _
def fj (seed:List UInt8):Int:=if seed.length=32 then 0 else 1
def dE (seed:List UInt8):List UInt8:=if seed.length=32 then aG seed else []
theorem eZ (h:s.length=32):fj s=0/\dE s=aG s:=⟨if_pos h,if_pos h⟩
theorem jL (h:¬s.length=32):fj s=1/\dE s=[]:=⟨if_neg h,if_neg h⟩
def kU (pub half:List UInt8):List UInt8:=eh pub half
def wkB (pub half info:List UInt8):List UInt8:=cL (kU pub half) Ch info 32
def wnB (pub half info:List UInt8):List UInt8:=cL (kU pub half) Ci info 12
theorem qV (pub half info:List UInt8):okK (wkB pub half info) (wnB pub half info):=⟨mE _ _ _,Cj _ _ _⟩
def okW (pub once:List UInt8):Prop:=once.length=32/\pub.length=32
instance (pub once:List UInt8):Decidable (okW pub once):=by unfold okW;infer_instance
def qW (pub once:List UInt8):Int:=if okW pub once then 0 else 1
def il (pub once:List UInt8):List UInt8:=if okW pub once then aG once else []
def iO (pub half info b:List UInt8):List UInt8:=fh (wkB pub half info) (wnB pub half info) [] b
def io (pub once info b:List UInt8):List UInt8:=if okW pub once then iO pub (aG once) info b else []
def unE (seed half info b:List UInt8):Int:=if okW half seed then fi (wkB (aG seed) half info) (wnB (aG seed) half info) [] b else 1
def unR (seed half info b:List UInt8):List UInt8:=if okW half seed then fB (wkB (aG seed) half info) (wnB (aG seed) half info) [] b else []
theorem qX {pub once:List UInt8}(info b:List UInt8)(h:okW pub once):qW pub once=0/\il pub once=aG once/\io pub once info b=iO pub (aG once) info b:=⟨if_pos h,if_pos h,if_pos h⟩
theorem uP {pub once:List UInt8}(info b:List UInt8)(h:¬okW pub once):qW pub once=1/\il pub once=[]/\io pub once info b=[]:=⟨if_neg h,if_neg h,if_neg h⟩
theorem uQ {seed half:List UInt8}(info b:List UInt8)(h:okW half seed):unE seed half info b=fi (wkB (aG seed) half info) (wnB (aG seed) half info) [] b/\unR seed half info b=fB (wkB (aG seed) half info) (wnB (aG seed) half info) [] b:=⟨if_pos h,if_pos h⟩
theorem uR {seed half:List UInt8}(info b:List UInt8)(h:¬okW half seed):unE seed half info b=1/\unR seed half info b=[]:=⟨if_neg h,if_neg h⟩
theorem Ck {seed half:List UInt8}(info b:List UInt8)(a:seed.length=32)(c:half.length=32):unE seed half info (iO (aG seed) half info b)=0/\unR seed half info (iO (aG seed) half info b)=b:=by
 obtain⟨e,d⟩:=uQ (seed:=seed) (half:=half) info (iO (aG seed) half info b) ⟨a,c⟩;rw[e,d];exact Cg [] b (qV _ _ _)
def fC:List UInt8:=[110,111,100,101]
def fU:List UInt8:=[112,97,116,104]
def Cl:List UInt8:=[111,110,99,101]
def bQ (s label:List UInt8):List UInt8:=cL s label [] 32
theorem jM (s a:List UInt8):(bQ s a).length=32:=mE _ _ _
def bX (t:List Nod)(i k:Nat):List Int:=gi t ((nd k (sq (i / 2 ^ k)):Nat):Int)
def ixS (t:List Nod)(i:Nat):Nat->List Nat
 | 0=>[]
 | m+1=>if (bX t i m).length=0 then ixS t i m else ixS t i m++[m]
def aw (t:List Nod)(i m:Nat):List Nat:=(ixS t i m).map λk=>nd (k+1) (i / 2 ^ (k+1))
def aT (t:List Nod)(i m:Nat):List (List Int):=(ixS t i m).map (bX t i)
theorem oW (t:List Nod)(i:Nat):∀ m,∀ k∈ixS t i m,k<m
 | 0,k,h=>by cases h
 | m+1,k,h=>by
  unfold ixS at h
  split at h
  ·have:=oW t i m k h;omega
  ·rcases Jy.1 h with h|h
   ·have:=oW t i m k h;omega
   ·simp at h;omega
theorem kX (t:List Nod)(i:Nat):∀ m k,k∈ixS t i m↔k<m/\0<(bX t i k).length
 | 0,k=>by simp[ixS]
 | m+1,k=>by
  unfold ixS
  split
  ·next h=>
   rw[kX t i m k]
   constructor
   ·exact fun⟨h1,h2⟩=>⟨by omega,h2⟩
   ·rintro⟨h1,h2⟩
    refine⟨?_,h2⟩
    by_cases e:k=m
    ·subst e;omega
    ·omega
  ·next h=>
   rw[Jy,kX t i m k]
   constructor
   ·rintro (⟨h1,h2⟩|h1)
    ·exact⟨by omega,h2⟩
    ·simp at h1;subst h1;exact⟨by omega,by omega⟩
   ·rintro⟨h1,h2⟩
    by_cases e:k=m
    ·exact .inr (by simp[e])
    ·exact .inl ⟨by omega,h2⟩
theorem oX (t:List Nod)(i:Nat):∀ m,(ixS t i m).Pairwise (·<·)
 | 0=>List.Pairwise.nil
 | m+1=>by
  unfold ixS
  split
  ·exact oX t i m
  ·refine List.pairwise_append.2 ⟨oX t i m,Kr _ _,λa ha b hb=>?_⟩
   have:=oW t i m a ha
   simp at hb
   omega
theorem jm (t:List Nod)(i m:Nat):(ixS t i m).length<=m:=by
 induction m with
 | zero=>exact IB _
 | succ m ih=>
  unfold ixS
  split
  ·omega
  ·rw[IE,Jf,Jq];omega
def dF (t:List Nod)(i:Int):Int:=if bd t i then 0 else 11
def fD (t:List Nod)(K:Nat)(i:Int):List Nat:=if bd t i then aw t i.toNat K else []
def ba:List Sd->Int->List UInt8
 | [],_=>[]
 | s :: l,x=>if s.node=x then s.seed else ba l x
def bL (t:List Nod)(K:Nat)(me:Int)(own:List Sd):Prop:=
 bd t me /\
 (∀ k,k<own.length->((aK own k).node=2*me\/∃ x∈aC K 0 me.toNat,(x:Int)=(aK own k).node/\(ats t x).kind=2)/\(aK own k).seed.length=32 /\
  aG (aK own k).seed=(ats t (aK own k).node.toNat).pub/\(0<k->(aK own (k - 1)).node<(aK own k).node)) /\
 (∀ x∈aC K 0 me.toNat,(ats t x).kind=2->me∉(ats t x).un->(ba own (x:Int)).length≠0)/\(ba own (2*me)).length≠0
def gF:List Sd->Sd->List Sd
 | [],s=>[s]
 | a :: l,s=>if s.node<a.node then s :: a :: l else a :: gF l s
def aV (s:List UInt8):Nat->List UInt8
 | 0=>s
 | k+1=>bQ (aV s k) fU
def fF (s:List UInt8)(n:Nat):List UInt8:=aV s (if n=0 then 1 else n)
theorem iq {s:List UInt8}(h:s.length=32):∀ k,(aV s k).length=32
 | 0=>h
 | k+1=>jM _ _
theorem jn (s:List UInt8)(a:Nat):∀ b,aV s (a+b)=aV (aV s a) b
 | 0=>rfl
 | b+1=>by show bQ (aV s (a+b)) fU=_;rw[jn s a b];rfl
def bf (s:List UInt8)(k:Nat):List UInt8:=bQ (aV s k) fC
def dG (secret:List UInt8)(n:Nat):List UInt8:=cL secret Cl (be 4 n) 32
def cA (t:List Nod)(secret info s:List UInt8):Nat->List Int->List Se
 | _,[]=>[]
 | n,y :: l=>⟨il (ats t y.toNat).pub (dG secret n),io (ats t y.toNat).pub (dG secret n) info s⟩ :: cA t secret info s (n+1) l
theorem mF (t:List Nod)(secret info s:List UInt8):∀ (l:List Int) (n:Nat),(cA t secret info s n l).length=l.length
 | [],_=>rfl
 | _ :: l,n=>by unfold cA;rw[Jf,Jf,mF t secret info s l]
def makeS (t:List Nod)(secret info:List UInt8):List UInt8->Nat->List (List Int)->List St
 | _,_,[]=>[]
 | s,n,who :: l=>⟨dE (bQ s fC),cA t secret info s n who⟩ :: makeS t secret info (bQ s fU) (n+who.length) l
theorem oY (t:List Nod)(secret info:List UInt8):∀ (l:List (List Int)) (s:List UInt8) (n:Nat),(makeS t secret info s n l).length=l.length
 | [],_,_=>rfl
 | _ :: l,s,n=>by unfold makeS;rw[Jf,Jf,oY t secret info l]
theorem mG (t:List Nod)(secret info:List UInt8):∀ (l:List (List Int)) (s:List UInt8) (n k:Nat),k<l.length->(am (makeS t secret info s n l) k).pub=aG (bf s k)
 | [],_,_,_,h=>absurd h (Kd _)
 | _ :: l,s,n,0,_=>(eZ (jM s fC)).2
 | who :: l,s,n,k+1,h=>by
  show(am (makeS t secret info (bQ s fU) (n+who.length) l) k).pub=_
  rw[mG t secret info l _ _ k (by simpa using h)]
  unfold bf
  congr 2
  have:=jn s 1 k
  rw[LA] at this
  exact this.symm
def dH:List Sd->List UInt8->List Nat->List Sd
 | own,_,[]=>own
 | own,s,x :: l=>dH (gF own ⟨(x:Int),bQ s fC⟩) (bQ s fU) l
def bR (p:List St):Nat->List Nat->List Nod->List Nod
 | _,[],t=>t
 | k,x :: l,t=>bR p (k+1) l (t.set x ⟨2,0,(am p k).pub,[],[]⟩)
def du (t:List Nod)(i:Int)(l:List Nat)(p:Pa):List Nod:=eA (bR p.step 0 l (lJ t i p.pub)) i
structure Md where
 tree:List Nod
 own:List Sd
 path:Pa
 last:List UInt8
def dI:Md:=⟨[],[],⟨[],[]⟩,[]⟩
def fa (t:List Nod)(i:Int)(seed secret:List UInt8):Int:=if seed.length=32/\secret.length=32 then dF t i else 1
def aQ (t:List Nod)(K i:Nat)(seed secret info:List UInt8):Pa:=⟨aG seed,makeS t secret info secret 0 (aT t i K)⟩
def di (t:List Nod)(K:Nat)(i:Int)(seed secret info:List UInt8):Md:=
 if fa t i seed secret=0 then ⟨du t i (aw t i.toNat K) (aQ t K i.toNat seed secret info),dH [⟨2*i,seed⟩] secret (aw t i.toNat K),aQ t K i.toNat seed secret info,fF secret (ixS t i.toNat K).length⟩ else dI
def fb (who:List (List Int))(p:Pa):Prop:=
 p.step.length=who.length/\p.pub.length=32/\∀ k,k<who.length->(am p.step k).fors.length=(who.getD k []).length/\(am p.step k).pub.length=32
def dJ (own:List Sd)(info:List UInt8):List Int->List Se->List UInt8 × Int
 | [],_=>([],5)
 | y :: l,f=>
  if (ba own y).length=0 then dJ own info l f.tail
  else if (aM f 0).half.length≠32 then ([],5)
  else if unE (ba own y) (aM f 0).half info (aM f 0).b≠0 then ([],unE (ba own y) (aM f 0).half info (aM f 0).b)
  else if (unR (ba own y) (aM f 0).half info (aM f 0).b).length≠32 then ([],2)
  else (unR (ba own y) (aM f 0).half info (aM f 0).b,0)
def jo (p:List St)(s:List UInt8)(k n:Nat):Prop:=∀ a,k+a<n->aG (bf s a)=(am p (k+a)).pub
theorem Se.ext' {a b:Se}(d:a.half=b.half)(c:a.b=b.b):a=b:=by cases a;cases b;simp_all
theorem St.ext' {a b:St}(d:a.pub=b.pub)(c:a.fors=b.fors):a=b:=by cases a;cases b;simp_all
theorem Pa.ext' {a b:Pa}(d:a.pub=b.pub)(c:a.step=b.step):a=b:=by cases a;cases b;simp_all
theorem qY {own:List Sd}{t:List Nod}{secret info s:List UInt8}(hs:s.length=32):∀ (l:List Int) (n:Nat),
  (∀ y∈l,(ba own y).length≠0->(ba own y).length=32/\aG (ba own y)=(ats t y.toNat).pub)->(∃ y∈l,(ba own y).length≠0) ->
  dJ own info l (cA t secret info s n l)=(s,0)
 | [],_,_,⟨y,hy,_⟩=>by cases hy
 | y :: l,n,h,hex=>by
  unfold dJ
  by_cases hk:(ba own y).length=0
  ·rw[if_pos hk]
   have ih:=qY (own:=own) (t:=t) (secret:=secret) (info:=info) hs l (n+1) (λz hz=>h z (by simp[hz])) (by
    obtain⟨z,hz,h2⟩:=hex
    rcases JP.1 hz with e|e
    ·subst e;exact absurd hk h2
    ·exact⟨z,e,h2⟩)
   exact ih
  ·rw[if_neg hk]
   obtain⟨h1,h2⟩:=h y (by simp) hk
   have hon:(dG secret n).length=32:=mE _ _ _
   have hpl:(ats t y.toNat).pub.length=32:=by rw[<-h2];exact fT _
   obtain⟨e1,e2,e3⟩:=qX info s (⟨hon,hpl⟩:okW (ats t y.toNat).pub (dG secret n))
   have e0:aM (cA t secret info s n (y :: l)) 0=⟨aG (dG secret n),iO (ats t y.toNat).pub (aG (dG secret n)) info s⟩:=by
    show(⟨il (ats t y.toNat).pub (dG secret n),io (ats t y.toNat).pub (dG secret n) info s⟩:Se)=_
    rw[e2,e3]
   have hh:=fT (dG secret n)
   obtain⟨u1,u2⟩:=Ck (seed:=ba own y) (half:=aG (dG secret n)) info s h1 hh
   rw[e0,if_neg (by simpa using hh)]
   rw[h2] at u1 u2
   simp only[u1,u2]
   rw[if_neg (by decide),if_neg (by simpa using hs)]
def eqH (a b:Nod):Prop:=a.kind=b.kind/\a.name=b.name/\a.pub=b.pub/\a.un=b.un
theorem eqH.refl (a:Nod):eqH a a:=⟨rfl,rfl,rfl,rfl⟩
theorem eqH.trans {a b c:Nod}(h:eqH a b)(k:eqH b c):eqH a c:=⟨h.1.trans k.1,h.2.1.trans k.2.1,h.2.2.1.trans k.2.2.1,h.2.2.2.trans k.2.2.2⟩
theorem CR (n:Nod)(h:List UInt8):eqH (dA n h) n:=⟨rfl,rfl,rfl,rfl⟩
theorem vn (a:x<t.length)(h:List UInt8)(y:Nat):eqH (ats (t.set x (dA (ats t x) h)) y) (ats t y):=by
 rw[dZ _ _ _ _ a];split
 ·next e=>subst e;exact CR _ _
 ·exact eqH.refl _
theorem CS {s:List Nod × List UInt8}(a:x<s.1.length)(y:Nat):eqH (ats (bP i s x).1 y) (ats s.1 y):=by
 unfold bP;split
 ·exact vn a _ y
 ·exact eqH.refl _
theorem vq {i:Nat}:∀ (l:List Nat) (s:List Nod × List UInt8),(∀ x∈l,x<s.1.length)->∀ y,eqH (ats (l.foldl (bP i) s).1 y) (ats s.1 y)
 | [],s,_,y=>eqH.refl _
 | x :: l,s,h,y=>(vq l (bP i s x) (λz hz=>by rw[vf];exact h z (by simp[hz])) y).trans (CS (h x (by simp)) y)
theorem CU (b:az t K)(j:bq t K)(i:Int)(y:Nat):eqH (ats (eA t i) y) (ats t y):=by
 by_cases h:bd t i
 ·obtain⟨k,rfl⟩:=IR h.1
  have l:=h.2.1;rw[b.lv] at l;have n:=b.len2;have c:k<2 ^ K:=by omega
  obtain⟨_,e,_⟩:=mK b.le b.len c;have g:∀ x∈(aU t k).reverse,x<t.length:=λx f=>by
   obtain⟨a,d,rfl⟩:=Jr (List.mem_reverse.1 f);have:=e a d;rwa [Iw,Iy d] at this
  obtain⟨_,m,_⟩:=vj b j c;unfold eA;rw[if_pos h,IM];exact(vn (by rw[m];omega) _ y).trans (vq _ (t,[]) g y)
 ·unfold eA
  rw[if_neg h];exact eqH.refl _
theorem mL (p:List St):∀ (l:List Nat) (k:Nat) (t:List Nod),(bR p k l t).length=t.length
 | [],_,_=>rfl
 | x :: l,k,t=>(mL p l (k+1) _).trans (IW ..)
theorem mM (p:List St):∀ (l:List Nat) (k:Nat) (t:List Nod) (y:Nat),(∀ x∈l,x<t.length)->y∉l->ats (bR p k l t) y=ats t y
 | [],_,_,_,_,_=>rfl
 | x :: l,k,t,y,h,hy=>by
  show ats (bR p (k+1) l _) y=_
  rw[mM p l (k+1) _ y (λz hz=>by rw[IW];exact h z (by simp[hz])) (λe=>hy (by simp[e])),dZ _ _ _ _ (h x (by simp)),if_neg λe=>hy (by simp[e])]
theorem pj (p:List St):∀ (l:List Nat) (k:Nat) (t:List Nod),l.Nodup->(∀ x∈l,x<t.length)->∀ a,a<l.length->ats (bR p k l t) (l.getD a 0)=⟨2,0,(am p (k+a)).pub,[],[]⟩
 | [],_,_,_,_,a,h=>absurd h (Kd _)
 | x :: l,k,t,hn,h,0,_=>by
  show ats (bR p (k+1) l _) x=_
  rw[mM p l (k+1) _ x (λz hz=>by rw[IW];exact h z (by simp[hz])) (LT.1 hn).1,dZ _ _ _ _ (h x (by simp)),if_pos rfl]
  rfl
 | x :: l,k,t,hn,h,a+1,ha=>by
  show ats (bR p (k+1) l _) (l.getD a 0)=_
  rw[pj p l (k+1) _ (LT.1 hn).2 (λz hz=>by rw[IW];exact h z (by simp[hz])) a (by simpa using ha),show k+1+a=k+(a+1) by omega]
theorem CW:x∈aw t i K↔∃ k,k<K/\0<(bX t i k).length/\x=nd (k+1) (i / 2 ^ (k+1)):=by
 unfold aw;rw[Ju];constructor
 ·rintro⟨k,c,rfl⟩
  obtain⟨b,a⟩:=(kX t i K k).1 c;exact⟨k,b,a,rfl⟩
 ·rintro⟨k,b,a,rfl⟩
  exact⟨k,(kX t i K k).2 ⟨b,a⟩,rfl⟩
theorem dQ (h:x∈aw t i K):x∈aC K 0 i:=by
 obtain⟨k,a,_,rfl⟩:=CW.1 h;exact jC.2 ⟨k+1,by omega,by omega,rfl⟩
theorem jq (t:List Nod)(i K:Nat):(aw t i K).Nodup:=by
 unfold aw;refine LC.2 ((oX t i K).imp λ{a b} h e=>?_);have:=(iA e).1;omega
theorem dR (t:List Nod)(i K:Nat):(aw t i K).length=(ixS t i K).length/\(aT t i K).length=(ixS t i K).length:=by
 unfold aw aT;rw[Jl,Jl];exact⟨rfl,rfl⟩
theorem vr (c:az t K)(A:bq t K)(w:(ats t (2*i)).kind=1)(p:Pa)(C:p.pub.length=32)(E:∀ a,a<(aw t i K).length->(am p.step a).pub.length=32):
  az (du t (i:Int) (aw t i K) p) K/\bq (du t (i:Int) (aw t i K) p) K/\(du t (i:Int) (aw t i K) p).length=t.length /\
  (∀ y,y≠2*i->y∉aC K 0 i->eqH (ats (du t (i:Int) (aw t i K) p) y) (ats t y)) /\
  eqH (ats (du t (i:Int) (aw t i K) p) (2*i)) (aD (ats t (2*i)).name p.pub) /\
  (∀ a,a<(aw t i K).length->eqH (ats (du t (i:Int) (aw t i K) p) ((aw t i K).getD a 0)) ⟨2,0,(am p.step a).pub,[],[]⟩) /\
  (∀ x∈aC K 0 i,x∉aw t i K->eqH (ats (du t (i:Int) (aw t i K) p) x) aY):=by
 have G:=az.lt_of (t:=t) (x:=2*i) (by rw[w];decide);have H:=c.len2;have r:i<2 ^ K:=by omega
 have u:=(c.there_iff i).2 w;have L:lI t (i:Int) p.pub=0:=by unfold lI;rw[if_pos C,if_pos u]
 have I:lJ t (i:Int) p.pub=bo t i p.pub:=by unfold lJ;rw[if_pos L,IM]
 have J:=c.upd w C;have l:=c.updAt r p.pub;have B:=az.updLen (t:=t) i p.pub;have D:∀ x∈aw t i K,x<(bo t i p.pub).length:=λx m=>by rw[B,c.len];exact ec r (dQ m)
 have z:bq (bo t i p.pub) K:=by
  refine⟨c.le,by rw[B,c.len],λy=>?_,λy b=>?_⟩
  ·rw[l]
   split
   ·have F:=(A.node (2*i)).name
    exact⟨.inr (.inl rfl),F,by show p.pub.length<=40;omega,IO _,IO _,λi r=>by cases r⟩
   ·split
    ·exact dM.blank
    ·exact A.node y
  ·rw[l] at b
   split at b
   ·cases b
   ·split at b
    ·cases b
    ·exact A.par y b
 have o:∀ y,y∉aw t i K->ats (bR p.step 0 (aw t i K) (bo t i p.pub)) y=ats (bo t i p.pub) y:=λy b=>mM _ _ _ _ _ D b
 have j:∀ a,a<(aw t i K).length->ats (bR p.step 0 (aw t i K) (bo t i p.pub)) ((aw t i K).getD a 0)=⟨2,0,(am p.step a).pub,[],[]⟩:=λa d=>by
  have:=pj p.step (aw t i K) 0 (bo t i p.pub) (jq t i K) D a d;rwa [JA] at this
 have f:=mL p.step (aw t i K) 0 (bo t i p.pub);have h:∀ y,ats (bR p.step 0 (aw t i K) (bo t i p.pub)) y=ats (bo t i p.pub) y\/(y % 2=1/\(ats (bR p.step 0 (aw t i K) (bo t i p.pub)) y=aY\/∃ q:List UInt8,q.length=32/\ats (bR p.step 0 (aw t i K) (bo t i p.pub)) y=⟨2,0,q,[],[]⟩)):=λy=>by
  by_cases b:y∈aw t i K
  ·obtain⟨a,d,rfl⟩:=Jr b
   have e:=j a d;rw[Iw,Iy d] at e;exact .inr ⟨eO (dQ b),.inr ⟨_,E a d,e⟩⟩
  ·exact .inl (o y b)
 have g:=J.over f h;have k:=z.over f h;obtain⟨P,O,N⟩:=CP g k (i:Int);have n:=CU g k (i:Int);unfold du;rw[I];refine⟨P,O,N.trans (f.trans B),λy M s=>?_,?_,λa d=>?_,λx m s=>?_⟩
 ·have:=n y
  rwa [o y (λe=>s (dQ e)),l,if_neg M,if_neg s] at this
 ·have:=n (2*i)
  rwa [o (2*i) (λe=>by have:=eO (dQ e);omega),l,if_pos rfl] at this
 ·have:=n ((aw t i K).getD a 0)
  rwa [j a d] at this
 ·have:=n x
  have v:x≠2*i:=λe=>by have:=eO m;omega
  rwa [o x s,l,if_neg v,if_pos m] at this
theorem mN:∀ (own:List Sd) (y:Int),(ba own y).length≠0->∃ k,k<own.length/\(aK own k).node=y/\(aK own k).seed=ba own y
 | [],y,h=>absurd rfl h
 | s :: l,y,h=>by
  unfold ba at h ⊢
  by_cases e:s.node=y
  ·rw[if_pos e]
   exact⟨0,by simp,e,rfl⟩
  ·rw[if_neg e] at h ⊢
   obtain⟨k,h1,h2,h3⟩:=mN l y h
   exact⟨k+1,by simp;omega,h2,h3⟩
theorem vu {t:List Nod}{K me:Nat}(hr:az t K)(hk:(ats t (2*me)).kind=1):∀ j,j<=K ->
  ((2*me:Nat):Int)∈bm t j (me / 2 ^ j)\/∃ a,1<=a/\a<=j/\((nd a (me / 2 ^ a):Nat):Int)∈bm t j (me / 2 ^ j)/\(ats t (nd a (me / 2 ^ a))).kind=2/\(me:Int)∉(ats t (nd a (me / 2 ^ a))).un
 | 0,_=>by
  left
  have e:me / 2 ^ 0=me:=by simp
  unfold bm
  rw[e,ep,if_neg (by rw[hk];decide)]
  exact Lx ..
 | j+1,hj=>by
  have hdiv:me / 2 ^ (j+1)=me / 2 ^ j / 2:=by rw[Ls,JS]
  by_cases h0:(ats t (nd (j+1) (me / 2 ^ (j+1)))).kind=0
  ·have hc:2*(me / 2 ^ (j+1))=me / 2 ^ j\/2*(me / 2 ^ (j+1))+1=me / 2 ^ j:=by omega
   have hsub:∀ y,y∈bm t j (me / 2 ^ j)->y∈bm t (j+1) (me / 2 ^ (j+1)):=λy hy=>by
    unfold bm
    rw[if_pos h0,Jy]
    rcases hc with e|e
    ·exact .inl (by rw[e];exact hy)
    ·exact .inr (by rw[e];exact hy)
   rcases vu hr hk j (by omega) with h|⟨a,h1,h2,h3,h4⟩
   ·exact .inl (hsub _ h)
   ·exact .inr ⟨a,h1,by omega,hsub _ h3,h4⟩
  ·have hodd:=iU j (me / 2 ^ (j+1))
   have h2:(ats t (nd (j+1) (me / 2 ^ (j+1)))).kind=2:=by
    rcases hr.odd hodd with e|⟨e,_⟩
    ·rw[e] at h0;exact absurd rfl h0
    ·exact e
   by_cases hu:(me:Int)∈(ats t (nd (j+1) (me / 2 ^ (j+1)))).un
   ·left
    unfold bm
    rw[if_neg h0]
    refine LG _ (Ju.2 ⟨(me:Int),hu,by omega⟩)
   ·right
    refine⟨j+1,by omega,IB _,?_,h2,hu⟩
    unfold bm
    rw[if_neg h0]
    exact Lx ..
theorem jP (o:K<=10)(j:i<2 ^ K)(h:me<2 ^ K)(d:i≠me):
  1<=bw i me/\bw i me<=K/\i / 2 ^ (bw i me)=me / 2 ^ (bw i me)/\sq (i / 2 ^ (bw i me - 1))=me / 2 ^ (bw i me - 1):=by
 obtain⟨g,c,f⟩:=nM o j h;obtain⟨m,l⟩:∃ m,bw i me=m:=⟨_,rfl⟩;rw[l] at g c f ⊢;have k:m≠0:=λe=>by subst e;simp at c;exact d c
 obtain⟨n,rfl⟩:∃ n,m=n+1:=⟨m - 1,by omega⟩;refine⟨by omega,g,c,?_⟩;rw[Km];have p:=f n (by omega);rw[Ls,<-JS,<-JS] at c;generalize i / 2 ^ n=a at *;generalize me / 2 ^ n=b at *;clear g f j h;unfold sq;split <;> omega
theorem mO {own:List Sd}(b:az t K)(r:i<2 ^ K)(p:(ats t (2*me)).kind=1)(g:me<2 ^ K)(c:i≠me)(l:bL t K (me:Int) own):
  ∃ y∈bX t i (bw i me - 1),(ba own y).length≠0:=by
 obtain⟨B,A,z,f⟩:=jP b.le r g c;obtain⟨n,o⟩:∃ n,bw i me - 1=n:=⟨_,rfl⟩;rw[o] at f ⊢;have m:me / 2 ^ n<2 ^ (K - n):=by
  have:=jz (K:=K) (j:=0) (q:=me) (i:=n) (by simpa using g) (by omega);simpa using this
 have x:bX t i n=bm t n (me / 2 ^ n):=by
  unfold bX;rw[f];exact nX b (by omega) m
 obtain⟨_,_,d,k⟩:=l;rw[IM] at d;rw[x];rcases vu b p n (by omega) with h|⟨a,w,C,v,u,s⟩
 ·refine⟨_,h,?_⟩
  have e:((2*me:Nat):Int)=2*(me:Int):=by omega
  rw[e];exact k
 ·exact⟨_,v,d _ (jC.2 ⟨a,w,by omega,rfl⟩) u s⟩
theorem mP (t:List Nod)(secret info:List UInt8):∀ (l:List (List Int)) (s:List UInt8) (n k:Nat),k<l.length->∃ n',(am (makeS t secret info s n l) k).fors=cA t secret info (aV s k) n' (l.getD k [])
 | [],_,_,_,h=>absurd h (Kd _)
 | who :: l,s,n,0,_=>⟨n,rfl⟩
 | who :: l,s,n,k+1,h=>by
  obtain⟨n',e⟩:=mP t secret info l (bQ s fU) (n+who.length) k (by simpa using h)
  refine⟨n',?_⟩
  show(am (makeS t secret info (bQ s fU) (n+who.length) l) k).fors=_
  rw[e]
  have:=jn s 1 k
  rw[LA] at this
  show cA t secret info (aV (bQ s fU) k) n' (l.getD k [])=cA t secret info (aV s (k+1)) n' (l.getD k [])
  rw[this]
  rfl
theorem ir (t:List Nod)(K i:Nat)(seed secret info:List UInt8):fb (aT t i K) (aQ t K i seed secret info):=by
 refine⟨oY _ _ _ _ _ _,fT _,λk a=>⟨?_,?_⟩⟩
 ·obtain⟨n',e⟩:=mP t secret info (aT t i K) secret 0 k a
  show(am (makeS t secret info secret 0 (aT t i K)) k).fors.length=_
  rw[e,mF]
 ·show(am (makeS t secret info secret 0 (aT t i K)) k).pub.length=32
  rw[mG t secret info _ _ _ k a];exact fT _
def kM (t:List Nod)(i me:Nat):Nat:=(ixS t i (bw i me - 1)).length
theorem rk (t:List Nod)(i n:Nat)(h:0<(bX t i n).length):∀ m,n<m->∃ rest,ixS t i m=ixS t i n++n :: rest
 | 0,hm=>absurd hm (Kd _)
 | m+1,hm=>by
  by_cases e:n=m
  ·subst e
   refine⟨[],?_⟩
   rw[show ixS t i (n+1)=if (bX t i n).length=0 then ixS t i n else ixS t i n++[n] from rfl,if_neg (by omega)]
  ·obtain⟨rest,e2⟩:=rk t i n h m (by omega)
   show ∃ rest,(if (bX t i m).length=0 then ixS t i m else ixS t i m++[m])=_
   split
   ·exact⟨rest,e2⟩
   ·exact⟨rest++[m],by rw[e2,Kb];rfl⟩
theorem mQ (b:1<=bw i me/\bw i me<=K)(h:0<(bX t i (bw i me - 1)).length):
  kM t i me<(ixS t i K).length/\(ixS t i K).getD (kM t i me) 0=bw i me - 1/\(aT t i K).getD (kM t i me) []=bX t i (bw i me - 1)/\(aw t i K).getD (kM t i me) 0=nd (bw i me) (i / 2 ^ (bw i me)):=by
 obtain⟨rest,e⟩:=rk t i _ h K (by omega);unfold kM;have c:(ixS t i K).length=(ixS t i (bw i me - 1)).length+(rest.length+1):=by rw[e,IE,Jf]
 have a:(ixS t i K)[(ixS t i (bw i me - 1)).length]?=some (bw i me - 1):=by
  rw[e,Jd (IB _),Lb];rfl
 refine⟨by omega,?_,?_,?_⟩
 ·rw[Iw,a];rfl
 ·unfold aT
  rw[Iw,Jt,a];rfl
 ·unfold aw
  rw[Iw,Jt,a];show nd (bw i me - 1+1) (i / 2 ^ (bw i me - 1+1))=_
  rw[show bw i me - 1+1=bw i me by omega]
def dS (t:List Nod)(K i me:Nat)(own:List Sd)(info:List UInt8)(p:Pa):List UInt8 × Int:=dJ own info ((aT t i K).getD (kM t i me) []) (am p.step (kM t i me)).fors
open Classical in
noncomputable def cH (t:List Nod) (K:Nat) (i me:Int) (own:List Sd) (info:List UInt8) (p:Pa):Int:=
 if ¬bd t i then 11 else if i=me then 1 else if ¬fb (aT t i.toNat K) p then 2
 else if (dS t K i.toNat me.toNat own info p).2≠0 then (dS t K i.toNat me.toNat own info p).2
 else if jo p.step (dS t K i.toNat me.toNat own info p).1 (kM t i.toNat me.toNat) (ixS t i.toNat K).length then 0 else 5
open Classical in
noncomputable def fW (K i:Nat) (own:List Sd):List Sd:=own.filter λs=>decide (¬∃ x∈aC K 0 i,(x:Int)=s.node)
noncomputable def cO (t:List Nod) (K:Nat) (i me:Int) (own:List Sd) (info:List UInt8) (p:Pa):Md:=
 if cH t K i me own info p=0 then
  ⟨du t i (aw t i.toNat K) p,dH (fW K i.toNat own) (dS t K i.toNat me.toNat own info p).1 ((aw t i.toNat K).drop (kM t i.toNat me.toNat)),p,aV (dS t K i.toNat me.toNat own info p).1 ((ixS t i.toNat K).length - kM t i.toNat me.toNat)⟩
 else dI
theorem CY {own:List Sd}{seed secret:List UInt8}(info:List UInt8)(c:az t K)(b:(ats t (2*i)).kind=1)(d:i≠me)(j:bL t K (me:Int) own)(E:seed.length=32)(u:secret.length=32):
  cH t K (i:Int) (me:Int) own info (aQ t K i seed secret info)=0/\dS t K i me own info (aQ t K i seed secret info)=(aV secret (kM t i me),0) /\
  (cO t K (i:Int) (me:Int) own info (aQ t K i seed secret info)).tree=(di t K (i:Int) seed secret info).tree /\
  (cO t K (i:Int) (me:Int) own info (aQ t K i seed secret info)).last=(di t K (i:Int) seed secret info).last /\
  (cO t K (i:Int) (me:Int) own info (aQ t K i seed secret info)).path=(di t K (i:Int) seed secret info).path:=by
 have f:=(c.there_iff me).1 j.1;have q:=c.len2;have r:i<2 ^ K:=by have:=az.lt_of (t:=t) (x:=2*i) (by rw[b];decide);omega
 have p:me<2 ^ K:=by have:=az.lt_of (t:=t) (x:=2*me) (by rw[f];decide);omega
 obtain⟨A,w,_,_⟩:=jP c.le r p d;obtain⟨y,o,h⟩:=mO c r f p d j;obtain⟨L,J,B,I⟩:=mQ (K:=K) ⟨A,w⟩ (Lg o);have C:=(dR t i K).2;have k:dS t K i me own info (aQ t K i seed secret info)=(aV secret (kM t i me),0):=by
  unfold dS;obtain⟨n',e⟩:=mP t secret info (aT t i K) secret 0 (kM t i me) (by omega);show dJ own info _ (am (makeS t secret info secret 0 (aT t i K)) (kM t i me)).fors=_
  rw[e,B];refine qY (iq u _) _ _ (λz M g=>?_) ⟨y,o,h⟩;obtain⟨a,H,G,F⟩:=mN own z g;obtain⟨_,v,n,_⟩:=j.2.1 a H;rw[F] at v n;rw[G] at n;exact⟨v,n⟩
 have s:cH t K (i:Int) (me:Int) own info (aQ t K i seed secret info)=0:=by
  unfold cH;rw[if_neg (by rw[JN];exact(c.there_iff i).2 b),if_neg (by omega),IM,IM,if_neg (by rw[JN];exact ir t K i seed secret info),k,if_neg (by simp),if_pos];intro a N;show _=(am (makeS t secret info secret 0 (aT t i K)) (kM t i me+a)).pub
  rw[mG t secret info _ _ _ _ (by omega)];unfold bf;rw[jn]
 have D:fa t (i:Int) seed secret=0:=by
  unfold fa dF;rw[if_pos ⟨E,u⟩,if_pos ((c.there_iff i).2 b)]
 have l:cO t K (i:Int) (me:Int) own info (aQ t K i seed secret info)=⟨du t (i:Int) (aw t i K) (aQ t K i seed secret info),dH (fW K i own) (aV secret (kM t i me)) ((aw t i K).drop (kM t i me)),aQ t K i seed secret info,aV (aV secret (kM t i me)) ((ixS t i K).length - kM t i me)⟩:=by
  unfold cO;rw[if_pos s,IM,IM,k]
 have m:di t K (i:Int) seed secret info=⟨du t (i:Int) (aw t i K) (aQ t K i seed secret info),dH [⟨2*(i:Int),seed⟩] secret (aw t i K),aQ t K i seed secret info,fF secret (ixS t i K).length⟩:=by
  unfold di;rw[if_pos D,IM]
 refine⟨s,k,?_,?_,?_⟩
 ·rw[l,m]
 ·rw[l,m]
  show aV (aV secret (kM t i me)) _=fF secret _
  unfold fF;rw[if_neg (by omega),<-jn];congr 1
  omega
 ·rw[l,m]
def IZ (Z:Nat->Prop)(w:World)(v:Value)(l:List Int):Prop:=RI w v l/\bk Z v
theorem IZ.solid {l:List Int}(h:IZ Z w v l)(b:∀ g,a g->Z g\/¬bO w g):IZ a w v l:=⟨h.1,h.2.solid h.1.solid b⟩
theorem IZ.step {l:List Int}(h:IZ Z w v l)(a:aj Z w w'):IZ Z w' v l:=⟨h.1.stepF a h.2,h.2⟩
theorem IZ.one {l:List Int}(h:IZ Z w v l):v.oneCell'=true:=by
 obtain⟨a,c,e⟩:=h.1.sl;obtain⟨n,rfl⟩:=e;rfl
theorem rC {a:Value}(c:a.oneCell'=true):∀ z∈[a],z.oneCell'=true:=by
 intro z b;simp only[JP,Lk,or_false] at b;subst b;exact c
def js:Sh (List Int) where
 k:=1
 pos:=by decide
 R:=λZ w vs x=>∃ q,vs=[q]/\IZ Z w q x
 len:=fun⟨_,e,_⟩=>by rw[e];rfl
 one:=fun⟨_,e,h⟩=>by rw[e];exact rC h.one
 solid:=fun⟨q,e,h⟩ hz=>⟨q,e,h.solid hz⟩
 step:=fun⟨q,e,h⟩ hs=>⟨q,e,h.step hs⟩
def fH:Sh (List UInt8) where
 k:=1
 pos:=by decide
 R:=λZ w vs x=>∃ q,vs=[q]/\RZ Z w q x
 len:=fun⟨_,e,_⟩=>by rw[e];rfl
 one:=fun⟨_,e,h⟩=>by rw[e];exact rC h.one
 solid:=fun⟨q,e,h⟩ hz=>⟨q,e,h.solid hz⟩
 step:=fun⟨q,e,h⟩ hs=>⟨q,e,h.step hs⟩
structure Stp where
 node:Int
 cover:List Int
def it:Sh Stp where
 k:=2
 pos:=by decide
 R:=λZ w vs x=>∃ q,vs=[.int .i64 x.node,q]/\IZ Z w q x.cover
 len:=fun⟨_,e,_⟩=>by rw[e];rfl
 one:=fun⟨_,e,h⟩=>by rw[e];exact lK rfl h.one
 solid:=fun⟨q,e,h⟩ hz=>⟨q,e,h.solid hz⟩
 step:=fun⟨q,e,h⟩ hs=>⟨q,e,h.step hs⟩
theorem aH.get {S:Sh α}{l:List α}(h:aH S w v l){x:α}(e:l[i]?=some x):
  ∃ b d c vs,v=.slice (some ⟨b,d,none⟩) l.length c/\b<w.heap.size/\w.rangeAt b (d+i*S.k) vs/\S.R noB w vs x:=by
 have n:=(Jk.1 e).1;obtain⟨a,c,rfl,p,o⟩:=SE.shape h;obtain⟨b,d,rfl,m,j⟩:=SE.at h (by omega);obtain⟨vs,g,f⟩:=j i x e;exact⟨b,d,c,vs,rfl,m,g,f⟩
def jQ (l:List (List Int))(i:Nat):List Int:=l.getD i []
def jR (l:List (List UInt8))(i:Nat):List UInt8:=l.getD i []
def cW (l:List Stp)(i:Nat):Stp:=l.getD i ⟨0,[]⟩
theorem aH.bs {l:List (List UInt8)}(h:aH fH w v l)(d:i<l.length):
  ∃ b a c q,v=.slice (some ⟨b,a,none⟩) l.length c/\b<w.heap.size/\w.cell? ⟨b,a+i,none⟩=some q/\Rd w q (jR l i):=by
 obtain⟨b,a,c,vs,e,j,g,q,rfl,f⟩:=aH.get h (Iy d);have k:jR l i=l[i]:=by unfold jR;rw[Iw,Iy d];rfl
 rw[k];have:=g 0 _ rfl;exact⟨b,a,c,q,e,j,by simpa [fH] using this,f.1⟩
theorem aH.sp {l:List Stp}(h:aH it w v l)(f:i<l.length):
  ∃ b a c q,v=.slice (some ⟨b,a,none⟩) l.length c/\b<w.heap.size/\w.cell? ⟨b,a+i*2,none⟩=some (.int .i64 (cW l i).node)/\w.cell? ⟨b,a+i*2+1,none⟩=some q/\RI w q (cW l i).cover:=by
 obtain⟨b,a,c,vs,e,j,d,q,rfl,g⟩:=aH.get h (Iy f);have k:cW l i=l[i]:=by unfold cW;rw[Iw,Iy f];rfl
 rw[k];exact⟨b,a,c,q,e,j,d 0 _ rfl,d 1 _ rfl,g.1⟩
structure Cs (w w':World):Prop where
 mk ::
 os:w'.os=w.os
 tape:w'.tape=w.tape
 output:w'.output=w.output
 size:w.heap.size<=w'.heap.size
 block:∀ k,bO w k->w'.heap[k]?=w.heap[k]?
theorem Cs.solid (h:Cs w w'){k:Nat}(d:bO w k):bO w' k:=by
 have:=h.block k d;obtain⟨a,b,c,e⟩:=d;exact⟨a,b,c,by rw[this,e]⟩
theorem Cs.trans {a b c:World}(h:Cs a b)(k:Cs b c):Cs a c:=
 ⟨k.os.trans h.os,k.tape.trans h.tape,k.output.trans h.output,IU h.size k.size,λi d=>(k.block i (h.solid d)).trans (h.block i d)⟩
theorem Kp.cs (h:Kp w w'):Cs w w':=⟨h.os,h.tape,h.output,h.size,λk a=>h.block k a.lt⟩
theorem Cs.grown {m:Nat}(h:w.grownBy w' (some m))(b:¬bO w m):Cs w w':=
 ⟨h.os,h.tape,h.output,h.size,λk a=>h.block k a.lt λe=>by cases e;exact b a⟩
theorem Cs.step (h:Cs w w'):aj (λg=>¬bO w g) w w':=⟨h.os,h.tape,h.output,h.size,λk _ a=>h.block k (JN.1 a)⟩
theorem aj.cs {Y:Nat->Prop}(h:aj Y w w')(b:∀ g,Y g->¬bO w g):Cs w w':=⟨h.os,h.tape,h.output,h.size,λk a=>h.block k a.lt λe=>b k e a⟩
theorem Rd.cs (h:Rd w v l)(k:Cs w w'):Rd w' v l:=h.stepF k.step λx n c e b a=>a (h.solid x n c e b)
theorem RI.cs {l:List Int}(h:RI w v l)(k:Cs w w'):RI w' v l:=h.stepF k.step λx n c e b a=>a (h.solid x n c e b)
theorem aH.cs {S:Sh α}{l:List α}(h:aH S w v l)(k:Cs w w'):aH S w' v l:=
 ((SZ.step (Z:=λg=>¬bO w g) (SZ.solidly (aH.sz h) λg a=>.inr a) k.step).1).mono λ_ h=>h.elim
theorem Cs.cell (h:Cs w w'){a:Addr}(b:w.cell? a=some v):w'.cell? a=some v:=by
 have:=h.block a.block (bO.of_cell b);rw[KX (w:=w) (a:=a) this];exact b
theorem Bx.cs {T:TypeId}{cs:Array Value}(h:Bx w b T cs)(k:Cs w w'):Bx w' b T cs:=(k.block b ⟨_,_,_,h⟩).trans h
section
open Go.Maps
def dT:Value->Option (DataW Value × List MemPlace):=λv=>some (.held v,[])
def sdV (x:Int)(q:Value):Value:=.agg #[.int .i64 x,q]
def fX (w:World)(v:Value)(s:Sd):Prop:=∃ q,v=sdV s.node q/\Rd w q s.seed
theorem fX.cs {s:Sd}(h:fX w v s)(k:Cs w w'):fX w' v s:=by
 obtain⟨q,e,r⟩:=h;exact⟨q,e,r.cs k⟩
structure KM (P:Program)(k:TypeId)(w:World)(m n:Nat)(S:Sd->Prop):Prop where
 mk ::
 ex:∃ D,w.ownsMap P k dT m n D/\(∀ x:Int,Maps.has D (.int .i64 x)=true↔∃ s,S s/\s.node=x)/\∀ s,S s->∃ v,(∀ zd,D.atKey (.int .i64 s.node) zd=.held v)/\fX w v s
 one:∀ s s',S s->S s'->s.node=s'.node->s=s'
section
variable {P : Program} {k : TypeId} {w w' : World} {m n : Nat} {S : Sd -> Prop}
theorem KM.lt (h:KM P k w m n S):m<w.heap.size:=by
 obtain⟨D,a,_⟩:=h.ex;exact a.lt
theorem KM.nosolid (h:KM P k w m n S):¬bO w m:=by
 obtain⟨D,⟨b,c,a,_⟩,_⟩:=h.ex;exact zy a
theorem KM.made (w:World)(P:Program)(k:TypeId):KM P k (w.alloc (.map #[] 0)) w.heap.size 0 (λ_=>False):=
 ⟨⟨_,World.ownsMap_made w P k dT,λx=>⟨λh=>by simp[Maps.has] at h,fun⟨s,h,_⟩=>h.elim⟩,λs h=>h.elim⟩,λs a h=>h.elim⟩
theorem KM.kp (h:KM P k w m n S)(c:Kp w w'):KM P k w' m n S:=by
 obtain⟨⟨D,l,j,g⟩,f⟩:=h;refine⟨⟨D,l.kept ⟨c.os,c.tape,c.output,c.size,λi e _=>c.block i e⟩ (row:=none) (by simp),j,λs d=>?_⟩,f⟩;obtain⟨v,a,b⟩:=g s d;exact⟨v,a,b.cs c.cs⟩
theorem KM.mono (h:KM P k w m n S){n':Nat}(a:n<=n'):KM P k w m n' S:=by
 obtain⟨⟨D,e,d,c⟩,b⟩:=h;exact⟨⟨D,e.mono a,d,c⟩,b⟩
theorem KM.congr (h:KM P k w m n S){S':Sd->Prop}(a:∀ s,S' s↔S s):KM P k w m n S':=by
 have:S'=S:=funext λs=>propext (a s)
 rw[this];exact h
theorem KM.put {s:Sd}(q:∀ s c,S s->S c->s.node=c.node->s=c)(d:IsMap D)(t:∀ x:Int,Maps.has D (.int .i64 x)=true↔∃ s,S s/\s.node=x)
  (r:∀ s,S s->∃ v,(∀ zd,D.atKey (.int .i64 s.node) zd=.held v)/\fX w v s) (g:Cs w w') (l:fX w v s) (u:w'.ownsMap P k dT m n (D.put (.int .i64 s.node) (.held v))):
  KM P k w' m n (λy=>y=s\/(S y/\y.node≠s.node)):=by
 have f:WideAt.IsKeyLit (.int .i64 s.node):=trivial;refine⟨⟨_,u,λx=>?_,λy j=>?_⟩,λa b p o e=>?_⟩
 ·by_cases e:x=s.node
  ·subst e
   rw[has_put_same d f];exact⟨λ_=>⟨s,.inl rfl,rfl⟩,λ_=>rfl⟩
  ·rw[has_put_other (λh=>e (by simpa using h)),t x]
   constructor
   ·rintro⟨y,a,b⟩
    exact⟨y,.inr ⟨a,by rw[b];exact e⟩,b⟩
   ·rintro⟨y,a|⟨a,_⟩,b⟩
    ·subst a;exact absurd b.symm e
    ·exact⟨y,a,b⟩
 ·rcases j with rfl|⟨a,b⟩
  ·exact⟨v,λzd=>atKey_put_same d f _ zd,l.cs g⟩
  ·obtain⟨i,A,z⟩:=r y a
   refine⟨i,λzd=>?_,z.cs g⟩;rw[atKey_put_other (λh=>b (by simpa using h))];exact A zd
 ·rcases p with rfl|⟨F,E⟩ <;> rcases o with rfl|⟨C,B⟩
  ·rfl
  ·exact absurd e.symm B
  ·exact absurd e E
  ·exact q a b F C e
theorem KM.drop {x:Int}(l:∀ s c,S s->S c->s.node=c.node->s=c)(p:∀ x:Int,Maps.has D (.int .i64 x)=true↔∃ s,S s/\s.node=x)
  (o:∀ s,S s->∃ v,(∀ zd,D.atKey (.int .i64 s.node) zd=.held v)/\fX w v s) (g:Cs w w') (q:w'.ownsMap P k dT m n (D.del (.int .i64 x))):
  KM P k w' m n (λy=>S y/\y.node≠x):=by
 refine⟨⟨_,q,λz=>?_,λy d=>?_⟩,λa b j i e=>l a b j.1 i.1 e⟩
 ·by_cases e:z=x
  ·subst e
   rw[has_del_same];exact⟨λh=>(by cases h),fun⟨y,a,b⟩=>absurd b a.2⟩
  ·rw[has_del_other (λh=>e (by simpa using h)),p z]
   constructor
   ·rintro⟨y,a,b⟩
    exact⟨y,⟨a,by rw[b];exact e⟩,b⟩
   ·rintro⟨y,a,b⟩
    exact⟨y,a.1,b⟩
 ·obtain⟨f,t,r⟩:=o y d.1
  refine⟨f,λzd=>?_,r.cs g⟩;rw[atKey_del_other (λh=>d.2 (by simpa using h))];exact t zd
variable {ops : Array Oper} {rest : List Oper} {o : Oper} {a : Act} {Q : Exit -> Act -> World -> Prop} {e : TypeId}
theorem DI (E:o.guard=none)(f c d:Operand)(t:TypeId)(g:o.op=Op.mapUpdate t f c d)(K:Keyed P k)(z:P.underlying t=some (.map k e))(C:a.eval f=.map (some m))(h:KM P k w m n S)(B:n<maxLen)
  (s:Sd) (v:Value) (u:a.eval c=.int .i64 s.node) (x:a.eval d=v) (b:keyOf P k (.int .i64 s.node)=some (.int .i64 s.node)) (A:fX w v s)
  (F:∀ w',KM P k w' m (n+1) (λy=>y=s\/(S y/\y.node≠s.node))->w.grownBy w' (some m)->wpList P ops Q rest (a.put o.dst undef) w'):wpList P ops Q (o :: rest) a w:=by
 obtain⟨⟨D,j,q,p⟩,l⟩:=h;have i:=(KM.mk ⟨D,j,q,p⟩ l:KM P k w m n S).nosolid;refine wpList_mapUpdate_own w E f c d t g k e K z dT m n D C j B _ _ _ u x b (.held v) [] rfl λw' o' r=>F w' ?_ r
 exact KM.put l j.isMap q p (Cs.grown r i) A o'
theorem DJ (v:o.guard=none)(d c:Operand)(t:TypeId)(f:o.op=Op.call { callee:=Callee.builtin Builtin.delete,args:=#[d,c],argTypes:=#[t,k] })(K:Keyed P k)(s:P.underlying t=some (.map k e))
  (u:a.eval d=.map (some m)) (h:KM P k w m n S) (x:Int) (r:a.eval c=.int .i64 x) (b:keyOf P k (.int .i64 x)=some (.int .i64 x))
  (z:∀ w',KM P k w' m n (λy=>S y/\y.node≠x)->w.grownBy w' (some m)->wpList P ops Q rest (a.put o.dst (.tuple #[])) w'):wpList P ops Q (o :: rest) a w:=by
 obtain⟨⟨D,p,l,j⟩,i⟩:=h;have g:=(KM.mk ⟨D,p,l,j⟩ i:KM P k w m n S).nosolid;refine wpList_delete_own w v d c t k f e K s dT m n D u p _ _ r b λw' o' q=>z w' ?_ q.grown
 exact KM.drop i l j (Cs.grown q.grown g) o'
theorem vQ (y:o.guard=none)(d c:Operand)(t:TypeId)(f:o.op=Op.lookup t d c true)(K:Keyed P k)(r:P.underlying t=some (.map k e))(j:(zeroValue e).run P w=.ok z w)
  (u:a.eval d=.map (some m)) (h:KM P k w m n S) (s:Sd) (g:S s) (l:a.eval c=.int .i64 s.node) (b:keyOf P k (.int .i64 s.node)=some (.int .i64 s.node))
  (A:∀ q,Rd w q s.seed->wpList P ops Q rest (a.put o.dst (.tuple #[sdV s.node q,.bool true])) w):wpList P ops Q (o :: rest) a w:=by
 obtain⟨⟨D,E,C,B⟩,J⟩:=h;obtain⟨v,H,q,rfl,G⟩:=B s g;refine wpList_lookup_own_ok w y d c t f k e K r dT j (.held z) [] rfl m n D u E _ _ l b λi I p=>?_
 have F:DataW.held i=.held (sdV s.node q):=by
  have:=congrArg (λx=>x.map Prod.fst) p;simpa [dT,H] using this
 cases F;rw[(C _).2 ⟨s,g,rfl⟩];exact A q G
theorem vR (y:o.guard=none)(f d:Operand)(t:TypeId)(g:o.op=Op.lookup t f d true)(K:Keyed P k)(r:P.underlying t=some (.map k e))(l:(zeroValue e).run P w=.ok z w)
  (v:a.eval f=.map (some m)) (h:KM P k w m n S) (x:Int) (u:∀ s,S s->s.node≠x) (p:a.eval d=.int .i64 x) (c:keyOf P k (.int .i64 x)=some (.int .i64 x))
  (A:wpList P ops Q rest (a.put o.dst (.tuple #[z,.bool false])) w):wpList P ops Q (o :: rest) a w:=by
 obtain⟨⟨D,C,B,H⟩,G⟩:=h;have i:Maps.has D (.int .i64 x)=false:=by
  cases hh:Maps.has D (.int .i64 x)
  ·rfl
  ·obtain⟨s,a,b⟩:=(B x).1 hh
   exact absurd b (u s a)
 refine wpList_lookup_own_ok w y f d t g k e K r dT l (.held z) [] rfl m n D v C _ _ p c λj F q=>?_
 have E:DataW.held j=.held z:=by
  have:=congrArg (λx=>x.map Prod.fst) q;simpa [dT,atKey_of_not_has i] using this
 cases E;rw[i];exact A
theorem DK (B:o.guard=none)(i g:Operand)(t:TypeId)(d:o.op=Op.lookup t i g false)(K:Keyed P k)(u:P.underlying t=some (.map k e))(l:(zeroValue e).run P w=.ok z w)
  (A:a.eval i=.map (some m)) (h:KM P k w m n S) (s:Sd) (y:S s) (p:a.eval g=.int .i64 s.node) (c:keyOf P k (.int .i64 s.node)=some (.int .i64 s.node))
  (C:∀ q,Rd w q s.seed->wpList P ops Q rest (a.put o.dst (sdV s.node q)) w):wpList P ops Q (o :: rest) a w:=by
 obtain⟨⟨D,F,M,E⟩,L⟩:=h;obtain⟨v,I,q,rfl,H⟩:=E s y;refine wpList_plain B λN f=>?_
 obtain⟨j,J,b,r⟩:=F.lookup K u l (R:=dT) (zd:=.held z) (zp:=[]) rfl c;have G:DataW.held j=.held (sdV s.node q):=by
  have:=congrArg (λx=>x.map Prod.fst) r;simpa [dT,I] using this
 cases G;unfold Oper.wp;simp[execOp,d,A,p,b,Result.andThen];exact f _ _ (C q H)
end
end
section
open Go.ChangeShapes Go.Deep Go.WideShapes
section
variable {H : Type} {enc : TypeId × Value -> H} {P : Program} {w : World} {base : Nat} {spare : Nat -> Bool} {held : Bool}
theorem aH.of_cells (S:Sh α)(d:α){t:TypeId}{u:Nat}{cs:List Value}{x:DataW H × List MemPlace}(N:P.underlying t=some (.slice e))(W:P.cellsOf e=S.k)
  (g:∀ n' c K,DataW.trod enc P w base spare held n' e c=some K->c.length=S.k->∃ y,S.R noB w c y)
  (h:DataW.trod enc P w base spare held u t cs=some x):∃ v l,cs=[v]/\aH S w v l:=by
 haveI:Inhabited α:=⟨d⟩
 rcases open_slice N h with⟨hcs,_⟩|⟨a,len,cap,m,n,D,Pl,hcs,_,hl,hm,hmm,_,hel⟩
 ·exact⟨_,[],hcs,aH.nil w⟩
 ·have Q:len<=m:=by rw[hmm];split <;> omega
  rw[W] at hel;have key:∀ i,i<len->∃ y:α,∃ vs:List Value,vs.length=S.k/\(∀ j z,vs[j]?=some z->w.cell? ((a.add (i*S.k)).add j)=some z)/\S.R noB w vs y:=by
   intro i U;obtain⟨c,G,F⟩:=hel i (by omega);obtain⟨_,q,I⟩:=World.cells?_some G;obtain⟨y,A⟩:=g _ _ _ F q;refine⟨y,c,q,λj z B=>?_,A⟩;have T:=(Jk.1 B).1;rw[I j (by omega)];exact B
  obtain⟨l,f,p⟩:=sW len _ key d;refine⟨_,l,by rw[hcs,f],some a,cap,rfl,by omega,hm,λh=>(by cases h),λJ=>?_⟩;rw[f] at J;obtain⟨b,C,o⟩:=a;obtain⟨vs,M,E,_⟩:=p 0 J;have Y:=S.pos;have r:=E 0 vs[0] (Iy (by omega));have O:o=none:=by simpa [Addr.add] using Lu r
  subst O;have s:=Jb w _ r;simp only[Addr.add_mid] at s;refine⟨b,C,rfl,s,λi y A=>?_⟩;have V:i<len:=by rw[<-f];exact(Jk.1 A).1
  obtain⟨vs,M,E,L⟩:=p i V;have X:l.getD i d=y:=by rw[Iw,A];rfl
  refine⟨vs,λj z B=>?_,by rw[<-X];exact L⟩;have:=E j z B;simpa only [Addr.add_mid] using this
theorem Ip {c b:Field}(s:P.underlying e=some (.struct #[c,b]))(a:oneCellFields P #[c,b]=true){n:Nat}{cs:List Value}{x:DataW H × List MemPlace}
  (h:DataW.trod enc P w base spare held n e cs=some x) (r:cs.length=2):
  ∃ f d n' i g,cs=[f,d]/\DataW.trod enc P w base spare held n' c.type [f]=some i/\DataW.trod enc P w base spare held n' b.type [d]=some g:=by
 obtain⟨xs,n',_,_,_,j,l⟩:=DataW.trod_struct s h
 obtain⟨o,q⟩:=hone_of a 0 c rfl
 obtain⟨m,p⟩:=hone_of a 1 b rfl
 match cs,r with
 | [f,d],_=>
  have k:xs.length=2:=j
  match xs,k with
  | [i,g],_=>
   have u:DataW.trod enc P w base spare held n' c.type [f]=some i:=by simpa [o,q] using l 0 c rfl
   have t:DataW.trod enc P w base spare held n' b.type [d]=some g:=by simpa [m,p] using l 1 b rfl
   exact⟨f,d,n',i,g,rfl,u,t⟩
theorem SL.of_cells {t i:TypeId}{g f:Field}{cs:List Value}{x:DataW H × List MemPlace}(n:P.underlying t=some (.slice e))(p:P.underlying e=some (.struct #[g,f]))
  (a:oneCellFields P #[g,f]=true) (r:P.cellsOf e=2) (u:P.underlying g.type=some (.int .i64)) (s:P.underlying f.type=some (.slice i)) (q:P.underlying i=some (.int .u8)) (d:P.cellsOf i=1)
  (h:DataW.trod enc P w base spare held b t cs=some x):∃ v l,cs=[v]/\SL w v l:=by
 refine aH.of_cells fu ⟨0,[]⟩ n r (λn' B F c o=>?_) h;obtain⟨I,C,G,E,D,rfl,z,y⟩:=Ip p a c o;obtain⟨k,A,_,_⟩:=Lv u z;cases A;obtain⟨m,j⟩:=Rd.of_one s q d y;exact⟨⟨k,m⟩,C,rfl,RZ.of j⟩
end

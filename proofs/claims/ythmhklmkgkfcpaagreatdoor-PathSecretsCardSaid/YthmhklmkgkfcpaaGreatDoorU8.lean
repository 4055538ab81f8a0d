import Derived.Test.YthmhklmkgkfcpaaGreatDoorU1
import Derived.Test.YthmhklmkgkfcpaaGreatDoorU3
import Derived.Test.YthmhklmkgkfcpaaGreatDoorU5
import Derived.Test.YthmhklmkgkfcpaaGreatDoorU7
import Derived.ProofKit
import Derived.Deep.Slices
import Derived.Lib.SmallJoins
import Derived.Laws.AppendOwn
import Derived.Deep.RegionLaw
import Derived.Laws.Rows
import Derived.Laws.Tables
set_option linter.unusedVariables false
set_option linter.unusedSimpArgs false
set_option maxHeartbeats 8000000
set_option maxRecDepth 100000
namespace Go.Proofs.YthmhklmkgkfcpaaGreatDoor
open Go.RowKit Go.ChangeShapes Go.WideShapes Go.Deep
section
variable {H : Type} {enc : TypeId × Value → H} {P : Program} {w : World} {base : Nat} {spare : Nat → Bool} {held : Bool}
theorem ap3 {n:Int}(h:(Lit.int .u8 n).wf=true):0≤n∧n<256:=by
 have:=bounds_u8 h;omega
theorem Rd.of_cells {t e:TypeId}{fuel:Nat}{cs:List Value}{x:DataW H × List MemPlace}(ht:P.underlying t=some (.slice e))(he:P.underlying e=some (.int .u8))(hc:P.cellsOf e=1)
  (h:DataW.trod enc P w base spare held fuel t cs=some x):∃ v l,cs=[v]∧Rd w v l:=by
 rcases open_ints ht he hc h with ⟨rfl,_⟩ | ⟨a,len,cap,zs,rfl,_,hl,hm,hz,_,hcell,hwz⟩
 ·exact ⟨_,[],rfl,none,0,rfl,Nat.le_refl _,Nat.zero_le _,fun _=>rfl,fun y hy=>by cases hy⟩
 ·have hzl:len≤zs.length:=by rw[hz];split <;> omega
  have hlen:((zs.take len).map fun z=>UInt8.ofNat z.toNat).length=len:=by simp;omega
  refine ⟨_,(zs.take len).map fun z=>UInt8.ofNat z.toNat,rfl,some a,cap,by rw[hlen],by omega,hm,fun h=>(by cases h),fun y hy i hi=>?_⟩;cases hy;rw[hlen] at hi;rw[hcell i (by omega)];have hzi:i<zs.length:=by omega
  have hw:=ap3 (hwz (zs[i]'hzi) (List.getElem_mem hzi));simp[List.getD_eq_getElem?_getD,List.getElem?_eq_getElem hzi];omega
theorem Rd.of_one {t e:TypeId}{fuel:Nat}{v:Value}{x:DataW H × List MemPlace}(ht:P.underlying t=some (.slice e))(he:P.underlying e=some (.int .u8))(hc:P.cellsOf e=1)
  (h:DataW.trod enc P w base spare held fuel t [v]=some x):∃ l,Rd w v l:=by
 obtain ⟨v',l,e,h⟩:=Rd.of_cells ht he hc h;cases e;exact ⟨l,h⟩
theorem aki {α:Type}[Inhabited α](n:Nat)(Q:Nat→α→Prop)(h:∀ i,i<n→∃ x,Q i x)(d:α):∃ l:List α,l.length=n∧∀ i,i<n→Q i (l.getD i d):=by
 induction n with
 | zero=>exact ⟨[],rfl,fun i hi=>by omega⟩
 | succ n ih=>
  obtain ⟨l,hl,hq⟩:=ih fun i hi=>h i (by omega)
  obtain ⟨x,hx⟩:=h n (by omega)
  refine ⟨l++[x],by simp[hl],fun i hi=>?_⟩
  rcases Nat.lt_or_ge i n with h1 | h1
  ·rw[List.getD_eq_getElem?_getD,List.getElem?_append_left (by omega),← List.getD_eq_getElem?_getD]
   exact hq i h1
  ·have:i=n:=by omega
   subst this
   rw[List.getD_eq_getElem?_getD,List.getElem?_append_right (by omega),hl,Nat.sub_self]
   exact hx
end
end Go.Proofs.YthmhklmkgkfcpaaGreatDoor
namespace Go.Proofs.YthmhklmkgkfcpaaGreatDoor
open Go.RowKit
theorem am8 {K:Nat}(h:K≤10):(2 ^ K).log2=K:=by
 have:=amY K h;unfold lgN at this;rwa [Int.toNat_natCast] at this
theorem aab.lg {t:List Nod}{K:Nat}(h:aab t K):lgT t=K:=by
 unfold lgT;rw[h.lv,am8 h.le]
theorem af5 {K i x:Nat}:x∈aah K 0 i↔∃ j,1≤j∧j≤K∧x=nd j (i / 2 ^ j):=by
 unfold aah;rw[List.mem_map];constructor
 ·rintro ⟨k,hk,rfl⟩
  rw[List.mem_range] at hk;exact ⟨k+1,by omega,by omega,by rw[show 0+1+k=k+1 by omega]⟩
 ·rintro ⟨j,h1,h2,rfl⟩
  exact ⟨j - 1,by rw[List.mem_range];omega,by rw[show 0+1+(j - 1)=j by omega,show j - 1+1=j by omega]⟩
theorem aba {K i x:Nat}(h:x∈aah K 0 i):x % 2=1:=by
 obtain ⟨j,h1,_,rfl⟩:=af5.1 h;obtain ⟨j,rfl⟩:=Nat.exists_eq_add_of_le' h1;exact afx _ _
theorem aby {K i x:Nat}(hi:i<2 ^ K)(h:x∈aah K 0 i):x<2 ^ (K+1) - 1:=by
 obtain ⟨j,h1,h2,rfl⟩:=af5.1 h;refine ae8 h2 ?_;have:=ae9 (K:=K) (j:=0) (q:=i) (i:=j) (by simpa using hi) (by omega);rwa [show K - (0+j)=K - j by omega] at this
theorem afb (K i:Nat):(aah K 0 i).Nodup:=by
 unfold aah;refine List.Pairwise.map _ ?_ (List.nodup_range (n:=K - 0));intro a b hab he;have:=(afy he).1;omega
theorem am9 (l:List Nat):∀ t:List Nod,(l.foldl (fun o x=>o.set x aan) t).length=t.length:=by
 induction l with
 | nil=>intro t;rfl
 | cons a l ih=>intro t;rw[List.foldl_cons,ih,List.length_set]
theorem aoG (l:List Nat):∀ (t:List Nod) (x:Nat),(∀ y∈l,y<t.length)→ats (l.foldl (fun o x=>o.set x aan) t) x=if x∈l then aan else ats t x:=by
 induction l with
 | nil=>intro t x _;simp
 | cons a l ih=>
  intro t x h
  rw[List.foldl_cons,ih (t.set a aan) x (fun y hy=>by rw[List.length_set];exact h y (List.mem_cons_of_mem _ hy)),abk t a aan x (h a List.mem_cons_self)]
  by_cases e:x=a
  ·subst e;simp
  ·simp[e]
theorem aij (l:List Nat)(i:Nat):∀ t:List Nod,(l.foldl (fun o x=>abV o i x) t).length=t.length:=by
 induction l with
 | nil=>intro t;rfl
 | cons a l ih=>
  intro t
  rw[List.foldl_cons,ih]
  unfold abV
  split
  ·rw[List.length_set]
  ·rfl
theorem aoH (t:List Nod)(i a x:Nat)(h:a<t.length):ats (abV t i a) x=if x=a∧(ats t a).kind=2 then agn (ats t a) i else ats t x:=by
 unfold abV;by_cases hk:(ats t a).kind=2
 ·rw[if_pos hk,abk t a _ x h]
  by_cases e:x=a
  ·rw[if_pos e,if_pos ⟨e,hk⟩]
  ·rw[if_neg e,if_neg (fun h=>e h.1)]
 ·rw[if_neg hk,if_neg (fun h=>hk h.2)]
theorem ale (l:List Nat)(i:Nat):∀ (t:List Nod) (x:Nat),l.Nodup→(∀ y∈l,y<t.length) →
  ats (l.foldl (fun o x=>abV o i x) t) x=if x∈l∧(ats t x).kind=2 then agn (ats t x) i else ats t x:=by
 induction l with
 | nil=>intro t x _ _;simp
 | cons a l ih=>
  intro t x hn h
  have ha:=h a List.mem_cons_self
  rw[List.nodup_cons] at hn
  have hlen:(abV t i a).length=t.length:=by
   have:=aij [a] i t
   simpa using this
  rw[List.foldl_cons,ih (abV t i a) x hn.2 (fun y hy=>by rw[hlen];exact h y (List.mem_cons_of_mem _ hy)),aoH t i a x ha]
  by_cases e:x=a
  ·subst e
   have e1:¬(x∈l∧(if x=x∧(ats t x).kind=2 then agn (ats t x) i else ats t x).kind=2):=fun h=>hn.1 h.1
   rw[if_neg e1]
   by_cases hk:(ats t x).kind=2
   ·rw[if_pos ⟨rfl,hk⟩,if_pos ⟨List.mem_cons_self,hk⟩]
   ·rw[if_neg (fun h=>hk h.2),if_neg (fun h=>hk h.2)]
  ·have e1:(if x=a∧(ats t a).kind=2 then agn (ats t a) i else ats t x)=ats t x:=if_neg (fun h=>e h.1)
   rw[e1]
   by_cases hm:x∈l∧(ats t x).kind=2
   ·rw[if_pos hm,if_pos ⟨List.mem_cons_of_mem _ hm.1,hm.2⟩]
   ·rw[if_neg hm,if_neg (fun h=>hm ⟨(List.mem_cons.1 h.1).resolve_left e,h.2⟩)]
theorem ana (t:List Nod):gapN t≤lvs t:=adD _ _
theorem anb {t:List Nod}(h:gapN t<lvs t):(ats t (2*gapN t)).kind=0:=by
 have:=ack h;exact of_decide_eq_true this
theorem ara {t:List Nod}{i:Nat}(hi:i≤lvs t)(h1:i<lvs t→(ats t (2*i)).kind=0)(h2:∀ k,k<i→(ats t (2*k)).kind≠0):gapN t=i:=
 adE hi (fun h=>decide_eq_true (h1 h)) (fun k hk=>decide_eq_false (h2 k hk))
def wK (t:List Nod)(K:Nat):Nat:=if gapN t=lvs t then K+1 else K
theorem aab.wide {t:List Nod}{K:Nat}(h:aab t K):(aai t).length=2 ^ (wK t K+1) - 1∧lvs (aai t)=2 ^ wK t K∧gapN t<2 ^ wK t K∧(∀ x,ats (aai t) x=ats t x)∧K≤wK t K:=by
 have h1:=h.len2;have h2:=h.lv;have h3:=aaC K;have h4:=aaj K;have h5:=ana t;unfold aai wK;unfold lvs at h2 h5 ⊢;by_cases hg:gapN t=(t.length+1) / 2
 ·rw[if_pos hg,if_pos hg]
  have h6:=aaj (K+1);refine ⟨?_,?_,?_,fun x=>ap4 _ _ _,by omega⟩
  ·rw[List.length_append,List.length_replicate];omega
  ·rw[List.length_append,List.length_replicate];omega
  ·omega
 ·rw[if_neg hg,if_neg hg]
  exact ⟨by omega,by omega,by omega,fun x=>rfl,by omega⟩
theorem aab.gap1024 {t:List Nod}{K:Nat}(h:aab t K)(hg:gapN t≠1024):wK t K≤10:=by
 unfold wK;have h1:=h.le;have h2:=h.lv;split
 ·next e=>
  rcases Nat.lt_or_eq_of_le h1 with h3 | h3
  ·omega
  ·subst h3
   rw[e,h2] at hg;exact absurd rfl hg
 ·exact h1
theorem aab.blankLen {t:List Nod}(i:Nat):(ajc t i).length=t.length:=am9 _ _
theorem aab.blankAt {t:List Nod}{K:Nat}(h:aab t K){i:Nat}(hi:i<2 ^ K)(x:Nat):ats (ajc t i) x=if x∈aah K 0 i then aan else ats t x:=by
 unfold ajc aau;rw[h.lg];exact aoG _ _ x (fun y hy=>by rw[h.len];exact aby hi hy)
theorem aab.goneAt {t:List Nod}{K:Nat}(h:aab t K){i:Nat}(hi:i<2 ^ K)(x:Nat):ats (aq9 t i) x=if x=2*i∨x∈aah K 0 i then aan else ats t x:=by
 have h1:=h.len2;unfold aq9;rw[abk _ _ _ x (by rw[aab.blankLen,h1];omega),h.blankAt hi x];by_cases e:x=2*i
 ·rw[if_pos e,if_pos (.inl e)]
 ·rw[if_neg e]
  by_cases hm:x∈aah K 0 i
  ·rw[if_pos hm,if_pos (.inr hm)]
  ·rw[if_neg hm,if_neg (fun h=>h.elim e hm)]
theorem aab.updAt {t:List Nod}{K:Nat}(h:aab t K){i:Nat}(hi:i<2 ^ K)(pub:List UInt8)(x:Nat):
  ats (updT t i pub) x=if x=2*i then aag (ats t (2*i)).name pub else if x∈aah K 0 i then aan else ats t x:=by
 have h1:=h.len2;unfold updT;rw[abk _ _ _ x (by rw[aab.blankLen,h1];omega),h.blankAt hi x]
theorem aab.updLen {t:List Nod}(i:Nat)(pub:List UInt8):(updT t i pub).length=t.length:=by
 unfold updT;rw[List.length_set,aab.blankLen]
theorem aab.lt_of {t:List Nod}{x:Nat}(h:(ats t x).kind≠0):x<t.length:=by
 refine Nat.lt_of_not_le fun hx=>h ?_
 rw[acJ hx];rfl
theorem aqb {t u:List Nod}{x:Nat}(h:okP t x)(he:ats u x=ats t x)(hk:∀ k:Nat,(k:Int)∈(ats t x).un→(ats t (2*k)).kind=1→(ats u (2*k)).kind=1)(hlo:0≤loV x):okP u x:=by
 rcases h with h1 | ⟨h1,h2,h3,h4,h5⟩
 ·exact .inl (by rw[he,h1])
 ·refine .inr ?_
  rw[he];refine ⟨h1,h2,h3,h4,fun e=>⟨(h5 e).1,(h5 e).2.1,fun i hi=>?_⟩⟩;obtain ⟨a1,a2,a3⟩:=(h5 e).2.2 i hi;obtain ⟨k,rfl⟩:=Int.eq_ofNat_of_zero_le (show 0≤i by omega);rw[Int.toNat_natCast] at a3 ⊢;exact ⟨a1,a2,hk k hi a3⟩
theorem anc (x:Int):0≤loV x:=by
 unfold loV;split
 ·omega
 ·omega
theorem arb {l:List Int}{n:Int}{k:Nat}(h:k<cutI l n)(hk:k<l.length):l[k]≤n:=by
 have:=List.not_of_lt_findIdx (p:=fun x=>decide (n<x)) (xs:=l) h;have:=of_decide_eq_false (by simpa using this:decide (n<l[k])=false);omega
theorem arc {l:List Int}{n:Int}(h:cutI l n<l.length):n<l[cutI l n]:=by
 have:=List.findIdx_getElem (p:=fun x=>decide (n<x)) (xs:=l) (w:=h);exact of_decide_eq_true this
theorem aqc (l:List Int)(n:Int):cutI l n≤l.length:=List.findIdx_le_length
theorem ane {t:List Nod}{name:Int}(h:∀ k,k<lvs t→¬((ats t (2*k)).kind=1∧(ats t (2*k)).name=name)):agm t name=false:=by
 refine decide_eq_false fun hl=>?_
 have:=ack hl;exact h _ hl (of_decide_eq_true this)
theorem aab.upd {t:List Nod}{K:Nat}(h:aab t K){i:Nat}(hk:(ats t (2*i)).kind=1){pub:List UInt8}(hp:pub.length=32):aab (updT t i pub) K:=by
 have hi:i<2 ^ K:=by
  have h1:=aab.lt_of (t:=t) (x:=2*i) (by rw[hk];decide);have h2:=h.len2;omega
 have hA:=h.updAt hi pub;have hL:=aab.updLen (t:=t) i pub;have hme:mayP (ats t (2*i)).name pub:=by
  rcases h.even i with e | ⟨_,_,e,_⟩
  ·rw[e] at hk;cases hk
  ·exact ⟨e.1,e.2.1,hp⟩
 refine ⟨h.le,by rw[hL,h.len],fun x hx=>?_,fun x y hxy hy hx1 hy1=>?_,⟨2*i,by rw[hL];exact aab.lt_of (by rw[hk];decide),by rw[hA,if_pos rfl];rfl⟩⟩
 ·by_cases e1:x=2*i
  ·refine .inr ?_
   rw[hA,if_pos e1];exact ⟨by rw[e1];show (1:Int)=_;omega,hme,.inl rfl,fun _=>rfl,fun h2=>absurd h2 (show ¬(1:Int)=2 by decide)⟩
  ·by_cases e2:x∈aah K 0 i
   ·exact .inl (by rw[hA,if_neg e1,if_pos e2])
   ·refine aqb (h.okA x) (by rw[hA,if_neg e1,if_neg e2]) (fun k hk1 hk=>?_) (anc _)
    rw[hA];by_cases e3:2*k=2*i
    ·rw[if_pos e3];rfl
    ·rw[if_neg e3,if_neg (fun hm=>by have:=aba hm;omega)]
     exact hk
 ·have hk:∀ z,(ats (updT t i pub) z).kind=1→(ats t z).kind=1∧(ats (updT t i pub) z).name=(ats t z).name:=fun z h1=>by
   rw[hA] at h1 ⊢;by_cases e1:z=2*i
   ·rw[if_pos e1,e1]
    exact ⟨hk,rfl⟩
   ·rw[if_neg e1] at h1 ⊢
    split at h1
    ·cases h1
    ·next e=>rw[if_neg e];exact ⟨h1,rfl⟩
  rw[(hk x hx1).2,(hk y hy1).2];exact h.one x y hxy (by rw[← hL];exact hy) (hk x hx1).1 (hk y hy1).1
theorem ard {t:List Nod}{K:Nat}(h:aab t K):∀ (j q:Nat),j≤K→q<2 ^ (K - j)→∀ l∈resF t j q,∃ y:Nat,l=(y:Int)∧y<t.length∧(ats t y).kind≠0:=by
 have hfull:∀ (j q:Nat),j≤K→q<2 ^ (K - j)→(ats t (nd j q)).kind≠0→∀ l∈(((nd j q:Nat):Int) :: (ats t (nd j q)).un.map (2*·)),∃ y:Nat,l=(y:Int)∧y<t.length∧(ats t y).kind≠0:=by
  intro j q hj hq hk l hl
  obtain ⟨_,s2,s3⟩:=aa4 h.le hj hq
  rcases List.mem_cons.1 hl with rfl | hl
  ·exact ⟨_,rfl,aab.lt_of hk,hk⟩
  ·obtain ⟨u,hu,rfl⟩:=List.mem_map.1 hl
   obtain ⟨k,rfl,_,a3⟩:=h.unAt s2 s3 u hu
   exact ⟨2*k,by omega,aab.lt_of (by rw[a3];decide),by rw[a3];decide⟩
 intro j
 induction j with
 | zero=>
  intro q hj hq l hl
  unfold resF at hl
  by_cases hk:(ats t (nd 0 q)).kind=0
  ·rw[if_pos hk] at hl;simp at hl
  ·rw[if_neg hk] at hl
   exact hfull 0 q hj hq hk l hl
 | succ j ih=>
  intro q hj hq l hl
  unfold resF at hl
  by_cases hk:(ats t (nd (j+1) q)).kind=0
  ·rw[if_pos hk] at hl
   have e:K - j=(K - (j+1))+1:=by omega
   have hp:=aaj (K - (j+1))
   rcases List.mem_append.1 hl with hl | hl
   ·exact ih (2*q) (by omega) (by rw[e];omega) l hl
   ·exact ih (2*q+1) (by omega) (by rw[e];omega) l hl
  ·rw[if_neg hk] at hl
   exact hfull (j+1) q hj hq hk l hl
theorem alf {t:List Nod}{K j q:Nat}(h:aab t K)(hj:j≤K)(hq:q<2 ^ (K - j)):resV t ((nd j q:Nat):Int)=resF t j q:=by
 have h1:=ae8 hj hq;have h2:=h.le;unfold resV;rw[if_pos ⟨by omega,by rw[h.len];omega⟩,Int.toNat_natCast,adJ j q (by omega),ahI j q (by omega)]
end Go.Proofs.YthmhklmkgkfcpaaGreatDoor
namespace Go.Proofs.YthmhklmkgkfcpaaGreatDoor
def aed (n w:Int):Prop:=1≤w∧w≤7∧0≤n∧n<256 ^ w.toNat
instance (n w:Int):Decidable (aed n w):=by unfold aed;infer_instance
def numE (n w:Int):Int:=if aed n w then 0 else 1
def numB (n w:Int):List UInt8:=if aed n w then be w.toNat n.toNat else []
def lenE (n:Int):Int:=if n<0∨1073741823<n then 1 else 0
def aat (n:Nat):List UInt8:=if n<64 then be 1 n else if n<16384 then be 2 (n+16384) else be 4 (n+2147483648)
def lenB (n:Int):List UInt8:=if lenE n=0 then aat n.toNat else []
def adO (c:Nat):Nat:=if c<64 then 1 else if c<128 then 2 else 4
def are (w:Nat)(l:List UInt8):Int:=if w=1 then val l else if w=2 then val l - 16384 else val l - 2147483648
def tlE (b:List UInt8)(at':Int):Int:=
 if at'<0∨b.length<at' then 1 else if (b.length:Int)=at' then 3 else
 let c:=(b.getD at'.toNat 0).toNat
 if 192≤c then 2 else if b.length - at'<adO c then 3 else
 let n:=are (adO c) ((b.drop at'.toNat).take (adO c))
 if (adO c=2∧n<64)∨(adO c=4∧n<16384) then 2 else 0
def tlN (b:List UInt8)(at':Int):Int:=if tlE b at'=0 then let c:=(b.getD at'.toNat 0).toNat;are (adO c) ((b.drop at'.toNat).take (adO c)) else 0
def tlP (b:List UInt8)(at':Int):Int:=if tlE b at'=0 then at'+adO (b.getD at'.toNat 0).toNat else 0
def rowE (x:List UInt8):Int:=lenE x.length
def rowB (x:List UInt8):List UInt8:=if rowE x=0 then aat x.length++x else []
theorem adP {n w:Int}(h:aed n w):numE n w=0∧numB n w=be w.toNat n.toNat:=by simp[numE,numB,h]
theorem ahL {n w:Int}(h:¬aed n w):numE n w=1∧numB n w=[]:=by simp[numE,numB,h]
theorem agp (n:Nat):(aat n).length=if n<64 then 1 else if n<16384 then 2 else 4:=by
 unfold aat;split
 ·exact aak _ _
 ·split <;> exact aak _ _
theorem ahM {x:List UInt8}(h:x.length≤1073741823):rowE x=0∧rowB x=aat x.length++x:=by
 have e:rowE x=0:=if_neg (by omega);simp[rowB,e]
theorem agq {x:List UInt8}(h:x.length≤1073741823):(rowB x).length=(aat x.length).length+x.length:=by rw[(ahM h).2,List.length_append]
end Go.Proofs.YthmhklmkgkfcpaaGreatDoor
namespace Go.Proofs.YthmhklmkgkfcpaaGreatDoor
open Go.RowKit
def adR (s:S8)(i:Nat):List UInt8:=(s.list.take i).flatMap ahN
theorem adS (s:S8)(i:Nat)(h:i<8):adR s (i+1)=adR s i++ahN (s.list.getD i 0):=by
 unfold adR;have h':i<s.list.length:=h;rw[List.take_succ_eq_append_getElem h',List.flatMap_append,List.getD_eq_getElem?_getD,List.getElem?_eq_getElem h'];simp
theorem ab7 (s:S8):∀ i,i≤8→(adR s i).length=4*i
 | 0,_=>rfl
 | i+1,h=>by rw[adS s i h,List.length_append,ab7 s i (by omega)];simp[ahN];omega
theorem afB (s:S8):s.bytes.length=32:=ab7 s 8 (by omega)
theorem ajn (x:UInt32):∃ b0 b1 b2 b3:UInt8,ahN x=[b0,b1,b2,b3]∧IntKind.u8.wrap (arO x / 16777216)=(b0.toNat:Int)∧IntKind.u8.wrap (arO x / 65536)=(b1.toNat:Int)∧IntKind.u8.wrap (arO x / 256)=(b2.toNat:Int)∧IntKind.u8.wrap (arO x)=(b3.toNat:Int):=by
 refine ⟨_,_,_,_,rfl,?_,?_,?_,?_⟩ <;> rw[IntKind.wrap_u8] <;> unfold arO <;> simp
theorem aco (s:S8)(w:World):
  Calls Tryz.prog 250 #[.agg (aal s.list)] w fun e w'=>(∃ v,e=.returned v∧Ow 5 w' w.heap.size v s.bytes)∧Kp w w':=by
 have U:=arN;obtain ⟨i0,hi,hz0,hz1,hz2⟩:=info_parts Tryz.info5;have HBB:i0.bytes=1:=hz2;have HB3:=Lib.hid HBB;clear HBB hz2;have hB0:Arr 252 (w.alloc (.cells (aal s.list) 252)) w.heap.size s.list:=Arr.new _ w _ s.list rfl;go_enter Tryz.func250,Tryz.ntmps250;go_wp2_with (first
  | (at_make;refine wpList_make_own _ rfl _ _ 24 rfl w.heap.size 5 i0 (.int .u8 0) 1 Tryz.underlying24 hi hz0 hz1 _ _ _ 32 rfl rfl rfl ?b1 ?b2 ?b3 ?_;rotate_right;intro w1 hown hgr;have hkw:Kp (w.alloc (.cells (aal s.list) 252)) w1:=Below.grown (Below.refl _ _) hgr (Nat.le_refl _) (fun k e=>by cases e);have hB1:=hB0.kp hkw;clear hgr)
  | (refine aaF Tryz.underlying252 (by kernel_rfl) rfl (.tmp 1) rfl w.heap.size s.list rfl hB1 rfl ?_))
 case b1=>rw[HB3.out];omega
 case b2=>unfold maxLen;omega
 case b3=>simp
 have ho1:Ow 5 w1 w.heap.size (.slice (some ⟨w.heap.size+1,0,none⟩) 0 32) []:=by
  rw[World.size_alloc] at hown;exact hown
 have hk1:Kp w w1:=((Kp.refl w).alloc _).trans hkw;clear hown hkw hB0 hB1 hz0 hz1 hi HB3;go_loopw[3,8] (fun v i wr=>∃ k:Nat,k≤8∧i=.int .i64 k∧Ow 5 wr w.heap.size v (adR s k)∧Kp w wr) (fun _ i _=>8 - (intOf i).toNat)
 case atStart=>exact ⟨0,by omega,rfl,ho1,hk1⟩
 case round=>
  clear ho1 hk1;obtain ⟨k,hk,rfl,hown,hkp⟩:=hrel;by_cases hlt:k<8
  ·have hidx:∀ W,(Instr.index 252 (.agg (aal s.list)) (.int .i64 k)).run Tryz.prog W=.ok (.int .u32 (arO (s.list.getD k 0))) W:=fun W=>by
    obtain ⟨ie,hie,hsz⟩:=alj;exact adh W 252 247 8 ie _ Tryz.underlying252 hie hsz Tryz.underlying247 rfl _ rfl k hlt _ (afc s.list k hlt)
   have hs:=adS s k hlt;have hlen:=ab7 s k (by omega);generalize s.list.getD k 0=x at *;obtain ⟨b0,b1,b2,b3,h4,v0,v1,v2,v3⟩:=ajn x;rw[h4] at hs;generalize adR s k=L at *;have HS:=Lib.hid hs;have HL:=Lib.hid hlen;clear hs hlen h4;generalize aal s.list=cs at *;go_wp2_with (at_builtin;refine aae U rfl _ _ rfl w.heap.size _ _ rfl (hown.kp ((Kp.refl _).alloc _)) _ [b0,b1,b2,b3] rfl (Ow.lit _ 5 0 4 _ _ (Nat.zero_le _) rfl (by decide) rfl).rd ?c1 ?c2 ?_;rotate_right;intro v' w2 ho2 hg _)
   case c1=>rw[HL.out];simp;omega
   case c2=>have:=hkp.size;simp;omega
   go_roundw
   case rel=>exact ⟨k+1,by omega,by go_num,by rw[HS.out];exact ho2,Kp.grown (hkp.alloc _) hg hown.own_ge⟩
   case measure=>simp[intOf];omega
  ·obtain rfl:k=8:=by omega
   go_wp2_with fail;go_ret;exact ⟨⟨_,rfl,hown⟩,hkp⟩
def unB (l:List Int):List UInt8:=l.flatMap fun i=>be 2 i.toNat
def adi (n:Nod):List UInt8:=
 if n.kind=1 then [1]++be 2 n.name.toNat++rowB n.pub++rowB n.hash
 else if n.kind=2 then [2]++rowB n.pub++rowB n.hash++rowB (unB n.un)
 else [0]
structure adj (n:Nod):Prop where
 kind:n.kind=0∨n.kind=1∨n.kind=2
 name:0≤n.name∧n.name≤65535
 pub:n.pub.length≤40
 hash:n.hash.length≤40
 unl:n.un.length≤100
 un:∀ i∈n.un,0≤i∧i≤1023
theorem aff (l:List Int):(unB l).length=2*l.length:=by
 unfold unB
 induction l with
 | nil=>rfl
 | cons a l ih=>rw[List.flatMap_cons,List.length_append,ih,aak,List.length_cons];omega
theorem aoV (l:List Int)(i:Int):unB (l++[i])=unB l++be 2 i.toNat:=by
 unfold unB;rw[List.flatMap_append];simp
theorem adT {x:List UInt8}(h:x.length≤1000):(rowB x).length≤x.length+2:=by
 rw[agq (by omega),agp];split
 ·omega
 ·rw[if_pos (by omega)];omega
theorem aeG {n:Nod}(h:adj n):(adi n).length≤300∧1≤(adi n).length:=by
 have h1:=adT (x:=n.pub) (by have:=h.pub;omega);have h2:=adT (x:=n.hash) (by have:=h.hash;omega);have h3:=adT (x:=unB n.un) (by rw[aff];have:=h.unl;omega);have h4:=h.pub;have h5:=h.hash;have h6:=h.unl;rw[aff] at h3;unfold adi;split
 ·simp only[List.length_append,aak,List.length_cons,List.length_nil];omega
 ·split
  ·simp only[List.length_append,List.length_cons,List.length_nil];omega
  ·simp
def afg (n:Nod)(g:List Int):Nod:=⟨n.kind,n.name,n.pub,n.un.filter fun i=>decide (i∉g),n.hash⟩
theorem adj.less {n:Nod}(h:adj n)(g:List Int):adj (afg n g):=
 ⟨h.kind,h.name,h.pub,h.hash,Nat.le_trans (List.length_filter_le _ _) h.unl,fun i hi=>h.un i (List.mem_filter.1 hi).1⟩
theorem adj.blank:adj aan:=⟨.inl rfl,by decide,by decide,by decide,by decide,fun i hi=>by cases hi⟩
def digF (t:List Nod)(g:List Int):Nat→Nat→List UInt8
 | 0,q=>aaI ([1]++be 2 q++adi (if (q:Int)∈g then aan else ats t (nd 0 q)))
 | j+1,q=>aaI ([2]++adi (afg (ats t (nd (j+1) q)) g)++rowB (digF t g j (2*q))++rowB (digF t g j (2*q+1)))
theorem ahR (l:List UInt8):(aaI l).length=32:=by
 unfold aaI;exact afB _
theorem aim (t:List Nod)(g:List Int)(j q:Nat):(digF t g j q).length=32:=by
 cases j <;> exact ahR _
structure aaZ (t:List Nod)(K:Nat):Prop where
 le:K≤10
 len:t.length=2 ^ (K+1) - 1
 node:∀ x,adj (ats t x)
 par:∀ x,(ats t x).kind=2→x % 2=1
def aboE (t:List Nod)(x side:Int):Int:=
 if 0≤x∧x<t.length∧0≤side∧side≤1 then (if (ats t x.toNat).kind=2 then 0 else 11) else 1
def othQ (side:Int)(q:Nat):Nat:=if side=0 then 2*q+1 else 2*q
def aboT (t:List Nod)(x:Nat)(side:Int):List UInt8:=
 aaI ([3]++rowB (ats t x).pub++rowB (ats t x).hash++rowB (digF t (ats t x).un (lev x - 1) (othQ side (qOf x))))
def aboV (t:List Nod)(x side:Int):List UInt8:=if aboE t x side=0 then aboT t x.toNat side else []
def acX (n:Nod)(h:List UInt8):Nod:=⟨n.kind,n.name,n.pub,n.un,h⟩
def layS (i:Nat)(s:List Nod × List UInt8)(x:Nat):List Nod × List UInt8:=
 if (ats s.1 x).kind=2 then
  (s.1.set x (acX (ats s.1 x) s.2),aboV (s.1.set x (acX (ats s.1 x) s.2)) (x:Int) (if x<2*i then 1 else 0))
 else s
def layD (t:List Nod)(i:Nat):List Nod × List UInt8:=(aau t i).reverse.foldl (layS i) (t,[])
def layE (t:List Nod)(i:Int):Int:=if aar t i then 0 else 11
def layV (t:List Nod)(i:Int):List Nod:=
 if aar t i then (layD t i.toNat).1.set (2*i.toNat) (acX (ats (layD t i.toNat).1 (2*i.toNat)) (layD t i.toNat).2) else t
theorem ahi {P:Program}{t e:TypeId}(U:U8 P t e){ops:Array Oper}{o:Oper}{a:Act}{w:World}{K:Act→World→Prop}{Q:Exit→Act→World→Prop}{E:Prop}
  (hg:o.guard=none) (s x:Operand) (hop:o.op=Op.call { callee:=Callee.builtin Builtin.append,args:=#[s,x],argTypes:=#[t,t] })
  (B:Nat) (v:Value) (l:List UInt8) (hs:a.eval s=v) (hown:Ow e w B v l) (ad:Addr) (n c:Nat) (m:List UInt8) (hx:a.eval x=.slice (some ad) n c) (hu:Rd w (.slice (some ad) n c) m)
  (hlen:l.length+m.length≤140737488355328) (hbase:B≤w.heap.size)
  (hK:∀ v' w',Ow e w' B v' (l++m)→w.grownBy w' v.ownBlock→K (a.put o.dst v') w'):
  if Region.wanted o (yielded ops a.tmps)=true then Oper.wp P o a w K Q else E:=by
 have hw:Region.wanted o (yielded ops a.tmps)=true:=by simp[Region.wanted,hg]
 rw[if_pos hw];obtain ⟨i,hi,hz,hsize,hby⟩:=U.hi;obtain ⟨hn,_,_⟩:=hu.len;subst hn;obtain ⟨a',c',e',h1,h2,h3,h4⟩:=hu;simp only[Value.slice.injEq] at e';obtain ⟨rfl,_,rfl⟩:=e';refine wp_append_own w s x t hop B e i (.int .u8 0) 1 1 U.ht hi hz hsize hby rfl (by decide) v l.length (Lib.byteCells l) hs hown ad m.length c (Lib.byteCells m) hx (by rw[aaf];omega) (fun j z hj=>?_) (fun z hz=>?_) (by unfold maxLen;omega) (by omega) hbase
  (fun v' w' h1 h2 _=>hK v' w' (by unfold Ow;rw[List.length_append,acj];exact h1) h2)
 ·have hjl:j<m.length:=by
   have:=(List.getElem?_eq_some_iff.1 hj).1;rwa [aaf] at this
  rw[aaO m j hjl] at hj;cases hj;exact h4 ad rfl j hjl
 ·obtain ⟨b,_,rfl⟩:=List.mem_map.1 hz
  rfl
def One (T:TypeId)(w:World)(p:Nat)(v:Value):Prop:=w.heap[p]?=some (.cells #[v] T (0,0))
theorem One.new (T:TypeId)(w:World)(v:Value):One T (w.alloc (.cells #[v] T)) w.heap.size v:=heap_alloc_new w _
theorem One.lt {T:TypeId}{w:World}{p:Nat}{v:Value}(h:One T w p v):p<w.heap.size:=(Array.getElem?_eq_some_iff.1 h).1
theorem One.cell {T:TypeId}{w:World}{p:Nat}{v:Value}(h:One T w p v):w.cell? ⟨p,0,none⟩=some v:=by
 rw[cell_of_row w p 0 _ T _ h];rfl
theorem One.frozen {T:TypeId}{w:World}{p:Nat}{v:Value}(h:One T w p v):w.frozen? ⟨p,0,none⟩=false:=by
 have h':=h;unfold One at h';simp[World.frozen?,h']
theorem One.kp {T:TypeId}{w w':World}{p:Nat}{v:Value}(h:One T w p v)(k:Kp w w'):One T w' p v:=(k.block p h.lt).trans h
theorem One.set {T:TypeId}{w:World}{p:Nat}{v:Value}(h:One T w p v)(u:Value):One T (w.setCell ⟨p,0,none⟩ u) p u:=by
 have h':=h;unfold One at h' ⊢;obtain ⟨hlt,heq⟩:=Array.getElem?_eq_some_iff.1 h';simp[World.setCell,hlt,Array.getElem_modify,heq]
theorem aab.there_iff {t:List Nod}{K:Nat}(h:aab t K)(k:Nat):aar t (k:Int)↔(ats t (2*k)).kind=1:=by
 constructor
 ·intro hi
  have:=hi.2.2;rwa [Int.toNat_natCast] at this
 ·intro hk
  have:=aab.lt_of (t:=t) (x:=2*k) (by rw[hk];decide);exact ⟨by omega,by unfold lvs;omega,by rw[Int.toNat_natCast];exact hk⟩
theorem aab.new {name:Int}{pub:List UInt8}(h:mayP name pub):aab [aag name pub] 0:=by
 have e0:ats [aag name pub] 0=aag name pub:=rfl;refine ⟨by omega,rfl,fun x hx=>?_,fun x y hxy hy=>by simp at hy;omega,⟨0,by simp,rfl⟩⟩;have:x=0:=by simpa using hx
 subst this;rw[show okP [aag name pub] 0↔_ from Iff.rfl];exact .inr ⟨rfl,h,.inl rfl,fun _=>rfl,fun h2=>absurd h2 (show ¬(1:Int)=2 by decide)⟩
def aaN (B:Nat)(v:Value):Prop:=∀ g,v.ownBlock=some g→B≤g
theorem aaN.nil (B n c:Nat):aaN B (.slice none n c):=fun g h=>by cases h
theorem aaN.mono {B C:Nat}{v:Value}(h:aaN B v)(hc:C≤B):aaN C v:=fun g hg=>Nat.le_trans hc (h g hg)
theorem aaN.kp {w w':World}{v:Value}(h:aaN w'.heap.size v)(k:Kp w w'):aaN w.heap.size v:=h.mono k.size
end Go.Proofs.YthmhklmkgkfcpaaGreatDoor

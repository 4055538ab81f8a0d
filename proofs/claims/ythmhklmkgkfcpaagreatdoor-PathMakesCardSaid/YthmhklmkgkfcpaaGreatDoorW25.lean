import Derived.Test.YthmhklmkgkfcpaaGreatDoorW23
set_option linter.all false
set_option maxHeartbeats 8000000
set_option maxRecDepth 100000
namespace Go.Proofs.YthmhklmkgkfcpaaGreatDoor
open Go.Proofs.Tryz Go.RowKit
variable {A:World}{K i j k n:Nat}{l s:List UInt8}{t:List Nod}{v:Value}{xs:List Nat}
def nS (who:List (List Int))(k:Nat):Nat:=((who.take k).map List.length).sum
theorem rW {who:List (List Int)}(h:k<who.length):nS who (k+1)=nS who k+(who.getD k []).length:=by
 unfold nS;rw[Jp h,Kx,List.sum_append,IU,IV h];simp
theorem rX {who:List (List Int)}{M:Nat}(hM:∀ k,k<who.length->(who.getD k []).length<=M):∀ k,k<=who.length->nS who k<=k*M
 | 0,_=>by simp[nS]
 | k+1,h=>by
  rw[rW (by omega),LK,LL]
  have:=rX hM k (by omega)
  have:=hM k (by omega)
  omega
def stS (t:List Nod)(secret info:List UInt8)(who:List (List Int))(k:Nat):St:=⟨dE (br (aW secret k) dT),bM t secret info (aW secret k) (nS who k) (who.getD k [])⟩
theorem wR (t:List Nod)(secret info:List UInt8):∀ (l:List (List Int)) (s:List UInt8) (n k:Nat),k<l.length->(makeS t secret info s n l)[k]?=some ⟨dE (br (aW s k) dT),bM t secret info (aW s k) (n+nS l k) (l.getD k [])⟩
 | [],_,_,_,h=>absurd h (Lk _)
 | who :: l,s,n,0,_=>by simp[nS];rfl
 | who :: l,s,n,k+1,h=>by
  show(makeS t secret info (br s eG) (n+who.length) l)[k]?=_
  rw[wR t secret info l _ _ k (by simpa using h)]
  have e1:aW (br s eG) k=aW s (k+1):=by
   have:=jL s 1 k
   rw[Mb] at this
   exact this.symm
  have e2:nS (who :: l) (k+1)=who.length+nS l k:=by simp[nS]
  rw[e1,e2,Lv]
  rfl
theorem wS {secret info:List UInt8}{who:List (List Int)}(h:k<who.length):(makeS t secret info secret 0 who).take (k+1)=(makeS t secret info secret 0 who).take k++[stS t secret info who k]:=by
 have b:=nH t secret info who secret 0;have a:=wR t secret info who secret 0 k h;rw[Jp (by omega)];rw[IV (by omega)] at a;rw[Lz a,JS];rfl
def seS (t:List Nod)(secret info s:List UInt8)(n:Nat)(l:List Int)(j:Nat):Se:=⟨fI (ats t (l.getD j 0).toNat).pub (df secret (n+j)),fJ (ats t (l.getD j 0).toNat).pub (df secret (n+j)) info s⟩
theorem rY (t:List Nod)(secret info s:List UInt8):∀ (l:List Int) (n j:Nat),j<l.length->(bM t secret info s n l)[j]?=some (seS t secret info s n l j)
 | [],_,_,h=>absurd h (Lk _)
 | y :: l,n,0,_=>rfl
 | y :: l,n,j+1,h=>by
  show(bM t secret info s (n+1) l)[j]?=_
  rw[rY t secret info s l (n+1) j (by simpa using h)]
  unfold seS
  rw[show n+1+j=n+(j+1) by omega]
  rfl
theorem wU {secret info:List UInt8}{l:List Int}(h:j<l.length):(bM t secret info s n l).take (j+1)=(bM t secret info s n l).take j++[seS t secret info s n l j]:=by
 have b:=lJ t secret info s l n;have a:=rY t secret info s l n j h;rw[Jp (by omega)];rw[IV (by omega)] at a;rw[Lz a]
theorem wV:∀ (l:List Nat) (own:List Sd) (s:List UInt8) (x:Nat),cC own s (l++[x])=dN (cC own s l) ⟨(x:Int),br (aW s l.length) dT⟩
 | [],own,s,x=>rfl
 | y :: l,own,s,x=>by
  show cC (dN own _) (br s eG) (l++[x])=dN (cC (dN own _) (br s eG) l) _
  rw[wV l]
  have:=jL s 1 l.length
  rw[Mb] at this
  rw[show aW (br s eG) l.length=aW s (l.length+1) from this.symm]
  rfl
theorem DI {own:List Sd}{l:List Nat}(h:k<l.length):cC own s (l.take (k+1))=dN (cC own s (l.take k)) ⟨((l.getD k 0:Nat):Int),br (aW s k) dT⟩:=by
 rw[Jp h,wV,Jv,Ma (by omega),IU,IV h];rfl
theorem DJ (a:aD t K)(f:i<2 ^ K)(h:k<K):(cA t i k).length<=2048/\∀ l∈cA t i k,∃ y:Nat,l=(y:Int)/\y<t.length/\(ats t y).kind≠0:=by
 have b:sq (i / 2 ^ k)<2 ^ (K - k):=by
  have c:=kR (K:=K) (j:=0) (q:=i) (i:=k) (by simpa using f) (by omega);rw[JS] at c;obtain⟨d,g⟩:∃ d,K - k=d+1:=⟨K - k - 1,by omega⟩;rw[g,bi] at c ⊢;generalize i / 2 ^ k=r at *;generalize 2 ^ d=D at *;unfold sq;split <;> omega
 have e:cA t i k=bt t k (sq (i / 2 ^ k)):=oJ a (by omega) b;rw[e];refine⟨?_,Ai a k _ (by omega) b⟩;have c:=nQ a k _ (by omega) b;have n:=bP (K:=k+1) (by have:=a.le;omega);have m:=bi k;omega
theorem lQ {a:Nat}(e:aD t K)(f:i<2 ^ K)(m:a<(aU t i K).length):((aU t i K).getD a []).length<=2048/\∀ j,j<((aU t i K).getD a []).length->∃ y:Nat,((aU t i K).getD a []).getD j 0=(y:Int)/\y<t.length/\(ats t y).kind≠0:=by
 have l:=(fY t i K).2;obtain⟨k,d,_,_,_,c,_⟩:=Dg (t:=t) (K:=K) (i:=i) (a:=a) [] [] [] (by omega);rw[c];obtain⟨h,g⟩:=DJ e f d;refine⟨h,λj b=>g _ ?_⟩;rw[IU,IV b];exact JD b
theorem wW (h:n<4294967296):fs (n:Int) 4=be 4 n:=by
 unfold fs;rw[if_pos]
 ·rfl
 ·unfold eE
  refine⟨by omega,by omega,by omega,?_⟩;show(n:Int)<4294967296
  omega
theorem DK (pub half info b:List UInt8):(ic pub half info b).length=b.length+32:=rF _ _ _ _
theorem rZ (t:List Nod)(K i:Nat){secret:List UInt8}(seed info:List UInt8)(c:secret.length=32)(k j:Nat):
  (aM (aC (bG t K i seed secret info).step k).fors j).half.length<=64/\(aM (aC (bG t K i seed secret info).step k).fors j).b.length<=64:=by
 have a:∀ l:List Se,l.length<=j->(aM l j).half.length<=64/\(aM l j).b.length<=64:=λl h=>by
  have e:aM l j=⟨[],[]⟩:=by unfold aM;rw[IU,LX h];rfl
  rw[e];exact⟨Jl _,Jl _⟩
 by_cases d:k<(aU t i K).length
 ·obtain⟨n',e⟩:=pD t secret info (aU t i K) secret 0 k d
  show(aM (aC (makeS t secret info secret 0 (aU t i K)) k).fors j).half.length<=64/\(aM (aC (makeS t secret info secret 0 (aU t i K)) k).fors j).b.length<=64
  rw[e];by_cases f:j<((aU t i K).getD k []).length
  ·have g:aM (bM t secret info (aW secret k) n' ((aU t i K).getD k [])) j=seS t secret info (aW secret k) n' ((aU t i K).getD k []) j:=by
    unfold aM;rw[IU,rY _ _ _ _ _ _ _ f];rfl
   rw[g];refine⟨?_,?_⟩
   ·show(fI _ _).length<=64
    unfold fI;split
    ·rw[ib];decide
    ·exact Jl _
   ·show(fJ _ _ _ _).length<=64
    unfold fJ;split
    ·rw[DK,jo c];decide
    ·exact Jl _
  ·exact a _ (by rw[lJ];omega)
 ·have e:aC (bG t K i seed secret info).step k=⟨[],[]⟩:=by
   unfold aC;rw[IU,LX (by have:=(ko t K i seed secret info).1;omega)];rfl
  rw[e];exact a [] (Jl _)
theorem DM {secret:List UInt8}(seed info:List UInt8)(f:aD t K)(g:i<2 ^ K)(d:secret.length=32):
  (∀ k j,(aM (aC (bG t K i seed secret info).step k).fors j).b.length<=1600)/\∀ j,j<(bG t K i seed secret info).step.length->(aC (bG t K i seed secret info).step j).pub.length<=10000/\(aC (bG t K i seed secret info).step j).fors.length<=10000/\∀ k,k<(aC (bG t K i seed secret info).step j).fors.length->(aM (aC (bG t K i seed secret info).step j).fors k).half.length<=10000/\(aM (aC (bG t K i seed secret info).step j).fors k).b.length<=10000:=by
 have c:=ko t K i seed secret info;refine⟨λk j=>Js (rZ t K i seed info d k j).2 (by decide),λj e=>⟨?_,?_,λk _=>⟨Js (rZ t K i seed info d j k).1 (by decide),Js (rZ t K i seed info d j k).2 (by decide)⟩⟩⟩
 ·rw[(c.2.2 j (by rw[<-c.1];exact e)).2];decide
 ·rw[(c.2.2 j (by rw[<-c.1];exact e)).1]
  exact Js (lQ (a:=j) f g (by rw[<-c.1];exact e)).1 (by decide)
theorem sK (aa:Value)(t:List Nod)(w:World)(i:NL w aa t)(l:t.length<=100000):
  Calls prog 89 #[aa] w λe w'=>e=.returned (.int .i64 ((iT t:Nat):Int))/\w=w':=by
 obtain⟨a,c,rfl,q,p⟩:=i.shape;obtain⟨o,n⟩:=rJ (t:=t) l;have m:IntKind.i64.wrap ((lvs t:Nat):Int)=((lvs t:Nat):Int):=IW _ (by have:=iO (t:=t) l;omega);have f:=Lib.hid (xn ((lvs t:Nat):Int) w);by_cases b:cm ((lvs t:Nat):Int)=true
 ·rw[show gn ((lvs t:Nat):Int)=2*((lvs t:Nat):Int) - 1 from if_pos b,show gi ((lvs t:Nat):Int)=0 from if_pos b] at f
  by_cases j:2*lvs t=t.length+1
  ·rw[show iT t=lvs t from if_pos ⟨b,j⟩]
   have k:¬(2*((lvs t:Nat):Int) - 1≠(t.length:Int)):=by omega
   have g:(2*((lvs t:Nat):Int) - 1 != (t.length:Int))=false:=bne_eq_false_iff_eq.2 (by omega);have d:2*((lvs t:Nat):Int) - 1=(t.length:Int):=by omega
   rw[d] at f;clear b j i k g d;generalize ((lvs t:Nat):Int)=L at *;go_enter func89,ntmps89;go_wp2_with fail;refine f.out.mono ?_;rintro _ _ ⟨rfl,rfl⟩;go_wp2_with fail;go_ret;exact⟨rfl,rfl⟩
  ·rw[show iT t=0 from if_neg λh=>j h.2]
   have g:(2*((lvs t:Nat):Int) - 1 != (t.length:Int))=true:=KX.2 (by omega);have d:¬2*((lvs t:Nat):Int) - 1=(t.length:Int):=by omega
   clear b j i;generalize 2*((lvs t:Nat):Int) - 1=M at *;generalize ((lvs t:Nat):Int)=L at *;go_enter func89,ntmps89;go_wp2_with fail;refine f.out.mono ?_;rintro _ _ ⟨rfl,rfl⟩;go_wp2_with fail;go_ret;exact⟨rfl,rfl⟩
 ·rw[show iT t=0 from if_neg λh=>b h.1]
  rw[show gn ((lvs t:Nat):Int)=0 from if_neg b,show gi ((lvs t:Nat):Int)=1 from if_neg b] at f;clear b i;generalize ((lvs t:Nat):Int)=L at *;go_enter func89,ntmps89;go_wp2_with fail;refine f.out.mono ?_;rintro _ _ ⟨rfl,rfl⟩;go_wp2_with fail;go_ret;exact⟨rfl,rfl⟩
theorem nZ (aa:Value)(t:List Nod)(K:Nat)(i:Int)(w:World)(l:NL w aa t)(d:aD t K):
  Calls prog 42 #[aa,.int .i64 i] w λe w'=>e=.returned (.bool (decide (bf t i)))/\w=w':=by
 obtain⟨s,r,o⟩:=d.small;have v:=Lib.hid (sK aa t w l (by omega));rw[(nT d.le d.len).1] at v;have g:=d.lv;have f:=bP d.le;obtain⟨a,c,rfl,p1,D⟩:=l.shape;by_cases u:0<=i
 ·obtain⟨k,rfl⟩:=Jq u
  by_cases m:k<2 ^ K
  ·have j:2*k<t.length:=by omega
   obtain⟨b,A,rfl,_,y⟩:=l.at (2*k) j;obtain⟨p,q,h,x⟩:=y (2*k) j;have G:=x.kind;have C:((ats t (2*k)).kind != 0)=decide (bf t (k:Int)):=by
    by_cases n:(ats t (2*k)).kind=0
    ·rw[n,Jr (λh=>by have:=(d.there_iff k).1 h;rw[n] at this;cases this)];rfl
    ·have m:(ats t (2*k)).kind=1:=by
      rcases d.even k with e|e
      ·rw[e] at n;exact absurd rfl n
      ·exact e.1
     rw[Jy ((d.there_iff k).2 m),m];rfl
   have F:IntKind.i64.wrap (2*(k:Int))=((2*k:Nat):Int):=by rw[IW _ (by omega)];omega
   have E:((2*k:Nat):Int)<(t.length:Int):=by omega
   have B:(k:Int)<((2 ^ K:Nat):Int):=by omega
   generalize decide (bf t (k:Int))=J at *;generalize t.length=N at *;generalize ((2 ^ K:Nat):Int)=z at *;generalize (ats t (2*k)).kind=H at *;generalize 2*k=I at *;clear l d y x m u s r o g f j;go_enter func42,ntmps42;go_wp2_with fail;refine v.out.mono ?_;rintro _ _ ⟨rfl,rfl⟩;go_wp2_with fail;go_ret;exact⟨by rw[<-C] <;> rfl,rfl⟩
  ·rw[Jr (show ¬bf t (k:Int) from λh=>by have:=h.2.1;omega)]
   have B:¬(k:Int)<((2 ^ K:Nat):Int):=by omega
   generalize ((2 ^ K:Nat):Int)=z at *;clear l d m s r o g f;go_enter func42,ntmps42;go_wp2_with fail;refine v.out.mono ?_;rintro _ _ ⟨rfl,rfl⟩;go_wp2_with fail;go_ret;exact⟨rfl,rfl⟩
 ·rw[Jr (show ¬bf t i from λh=>u h.1)]
  clear l d s r o g f;generalize ((2 ^ K:Nat):Int)=z at *;go_enter func42,ntmps42;go_wp2_with fail;go_ret;exact⟨rfl,rfl⟩
theorem FE (w:World)(a:aD t K)(b:i<2 ^ K)(c:Tab w):
  Calls prog 92 #[.int .i64 (2*(i:Int)),.int .i64 ((2 ^ K:Nat):Int)] w λe w'=>(∃ v,e=.returned (.tuple #[v,.int .i64 0])/\ON 3 w' w.heap.size v (aK K 0 i))/\Kp w w':=by
 have:=xE K 0 i w a.le (Jl _) (by simpa using b) c;rw[fa] at this;rwa [show((2*i:Nat):Int)=2*(i:Int) by omega] at this
theorem yg (aa:Value)(t:List Nod)(K i:Nat)(w:World)(f:NL w aa t)(b:aD t K)(k:i<2 ^ K)(l:Tab w):
  Calls prog 45 #[aa,.int .i64 (i:Int)] w λe w'=>(∃ v,e=.returned v/\ON 3 w' w.heap.size v (aK K 0 i))/\Kp w w':=by
 obtain⟨q,p,o⟩:=b.small;have g:=bP b.le;have h:=Lib.hid (sK aa t w f (by omega));rw[(nT b.le b.len).1] at h;have n:=Lib.hid (FE w b k l);have u:IntKind.i64.wrap (2*(i:Int))=2*(i:Int):=IW _ (by omega);obtain⟨a,c,rfl,_,_⟩:=f.shape;generalize aK K 0 i=z at *;generalize ((2 ^ K:Nat):Int)=A at *;generalize t.length=N at *;clear f b k q p o g l;go_enter func45,ntmps45;go_wp2_with fail;refine h.out.mono ?_;rintro _ _ ⟨rfl,rfl⟩;go_wp2_with fail;refine n.out.mono ?_;rintro _ r ⟨⟨v,rfl,d⟩,j⟩;have m:=Lib.hid (Jb d j);obtain⟨y,s,x,rfl⟩:=d.rn.sl;clear d j n h;go_wp2_with fail;go_ret;exact⟨⟨_,rfl,m.out.1⟩,m.out.2⟩
theorem yi (aa:Value)(seed:List UInt8)(w:World)(d:Rd w aa seed):
  Calls prog 55 #[aa] w λe w'=>(∃ r,e=.returned r/\Rd w' r (dE seed)/\ba w.heap.size r)/\Kp w w':=by
 have i:=Lib.hid (pV aa seed w d);obtain⟨a,n,c,rfl⟩:=az d;clear d;go_enter func55,ntmps55;go_wp2_with fail;refine i.out.mono ?_;rintro _ j ⟨⟨v,rfl,b,g⟩,h⟩;have f:=Lib.hid (Jb b (Jb g h));obtain⟨m,k,l,rfl⟩:=az b;clear b h g i;go_wp2_with fail;go_ret;exact⟨⟨_,rfl,f.out.1,f.out.2.1⟩,f.out.2.2⟩
theorem yj (d:Value)(s:ByteArray)(k:List UInt8)(w:World)(g:Rd w d k)(l:s.size<=300)(b:k.length<=2000):
  Calls prog 104 #[d,.string s] w λe w'=>(∃ v,e=.returned v/\Ow 5 w' w.heap.size v (br k s.data.toList))/\Kp w w':=by
 have h:=Lib.hid (BX d s k w g l b);rw[xk] at h;generalize br k s.data.toList=D at *;obtain⟨a,n,c,rfl⟩:=az g;clear g b;go_enter func104,ntmps104;go_wp2_with fail;refine h.out.mono ?_;rintro _ m ⟨⟨v,rfl,f⟩,i⟩;have j:=Lib.hid (Jb f i);obtain⟨q,o,p,rfl⟩:=az f.rd;clear f i h;go_wp2_with fail;go_ret;exact⟨⟨_,rfl,j.out.1⟩,j.out.2⟩
def lW (own:List Sd):Prop:=∀ k,0<k->k<own.length->(aO own (k - 1)).node<(aO own k).node
theorem yk {own:List Sd}:lW own↔srt own:=by
 constructor
 ·intro h
  have c:∀ d a,a+d+1<own.length->(aO own a).node<(aO own (a+d+1)).node:=λd=>by
   induction d with
   | zero=>exact λa e=>by have:=h (a+0+1) (by omega) e;rwa [show a+0+1 - 1=a by omega] at this
   | succ d ih=>
    intro a e;have l:=ih a (by omega);have g:=h (a+(d+1)+1) (by omega) e;rw[show a+(d+1)+1 - 1=a+d+1 by omega] at g;exact Int.lt_trans l g
  refine JU.2 λa b e i j=>?_
  have:=c (b - a - 1) a (by omega);rwa [show a+(b - a - 1)+1=b by omega,fl e,fl i] at this
 ·intro h k m f
  rw[fl f,fl (show k - 1<own.length by omega)];exact JU.1 h (k - 1) k (by omega) f (by omega)
theorem yl (aa:Value)(own:List Sd)(w:World)(u:SL w aa own):Calls prog 43 #[aa] w λe w'=>aR e (lW own)/\Kp w w':=by
 obtain⟨a,c,rfl,p1,F⟩:=SE.shape u;unfold maxLen at F;have D:=Lib.hid u;have d:Hid (∀ k,0<k->k<own.length->¬(aO own (k - 1)).node<(aO own k).node->¬lW own):=λk o H h e=>h (e k o H)
 have b:Hid ((∀ k,0<k->k<own.length->(aO own (k - 1)).node<(aO own k).node)->lW own):=λh=>h
 generalize lW own=P at *;obtain⟨N,z⟩:∃ N,own.length=N:=⟨_,rfl⟩;have E:=Lib.hid z;rw[z] at p1 D d b ⊢;clear u z;go_enter func43,ntmps43;go_wp2_with fail;go_loopw[3] (λi wr=>∃ m:Nat,i=.int .i64 ((m:Int)+1)/\(∀ j,0<j->j<m+1->j<N->(aO own (j - 1)).node<(aO own j).node)/\Kp w wr) (λi _=>(N+1 - (intOf i).toNat))
 case atStart=>exact⟨0,rfl,λj o W=>by omega,Kp.refl _⟩
 case round=>
  obtain⟨m,rfl,f,q⟩:=hrel;have g:=Lib.hid f;have r:=Lib.hid q;clear f q;by_cases p:m+1<N
  ·obtain⟨g1,Q,K,M,C,_,c1,_,_⟩:=SL.node (i:=m+1) (aL.kp D.out r.out) (by rw[E.out];exact p)
   obtain⟨Z,O,J,L,B,_,d1,_,_⟩:=SL.node (i:=m) (aL.kp D.out r.out) (by rw[E.out];omega);rw[E.out] at C B;simp only[Ji] at C;obtain⟨rfl,_,rfl⟩:=C;simp only[Ji,JL,Kn,and_true] at B;obtain⟨⟨rfl,rfl⟩,y⟩:=B;clear y;have V:IntKind.i64.wrap ((m:Int)+1+1)=(m:Int)+1+1:=IW _ (by omega);have U:IntKind.i64.wrap ((m:Int)+1 - 1)=(m:Int):=by rw[IW _ (by omega)];omega
   have G:(m:Int)+1<(N:Int):=by omega
   have T:(m:Int)<(N:Int):=by omega
   have S:(0:Int)<=(m:Int)+1:=by omega
   have R:((m:Int)+1).toNat=m+1:=by omega
   have n:Hid (¬(aO own m).node<(aO own (m+1)).node->¬P):=λh=>d.out (m+1) (by omega) p (by simpa using h)
   have l:Hid ((aO own m).node<(aO own (m+1)).node->∀ j,0<j->j<m+1+1->j<N->(aO own (j - 1)).node<(aO own j).node):=λh j o x v=>by
    rcases JC (JN.1 x) with A|A
    ·exact g.out j o A v
    ·rw[A];simpa using h
   clear d b g;generalize (aO own (m+1)).node=X at *;generalize (aO own m).node=Y at *;by_cases t:Y<X
   ·have s:=Lib.hid (l.out t)
    have I:¬X<=Y:=by omega
    clear l n;go_wp2_with fail;go_region
    go_wp2_with fail;go_roundw
    case rel=>exact⟨m+1,by go_num,s.out,r.out.drew⟩
    case measure=>simp[intOf];omega
   ·have s:=Lib.hid (n.out (by omega))
    have I:X<=Y:=by omega
    clear l n;go_wp2_with fail;go_region
    go_wp2_with fail;go_ret;exact⟨aR.no s.out,r.out.drew⟩
  ·have s:=Lib.hid (b.out λj o x=>g.out j o (by omega) x)
   have G:¬(m:Int)+1<(N:Int):=by omega
   clear d b;go_wp2_with fail;go_ret;exact⟨aR.yes s.out,r.out⟩
def lY (seed info half b:List UInt8):List UInt8 × Int:=
 if half.length≠32 then ([],5) else if unE seed half info b≠0 then ([],unE seed half info b) else if (unR seed half info b).length≠32 then ([],2) else (unR seed half info b,0)
theorem FG (aa v x y:Value)(seed info half b:List UInt8)(w:World)(E:Rd w aa seed)(D:Rd w v info)(C:Rd w x half)(B:Rd w y b)(F:info.length<=1400)(G:b.length<=1600):
  Calls prog 120 #[aa,v,.agg #[x,y]] w λe w'=>(∃ r,e=.returned (.tuple #[r,.int .i64 (lY seed info half b).2])/\Rd w' r (lY seed info half b).1)/\Kp w w':=by
 have k:=Lib.hid (λW (o:Kp w W)=>FD aa x v y seed half info b W (E.kp o) (C.kp o) (D.kp o) (B.kp o) F G);have z:Hid (lY seed info half b=if half.length≠32 then ([],5) else if unE seed half info b≠0 then ([],unE seed half info b) else if (unR seed half info b).length≠32 then ([],2) else (unR seed half info b,0)):=rfl;generalize lY seed info half b=a at *;generalize unE seed half info b=p at *;generalize unR seed half info b=g at *;obtain⟨au,U,Z,rfl⟩:=az E;obtain⟨av,T,Y,rfl⟩:=az D;obtain⟨Q,N,rfl,_,_⟩:=C.shape;obtain⟨P,L,M,rfl⟩:=az B;clear E D C B;by_cases i:half.length=32
 ·have f:Hid (a=if p≠0 then ([],p) else if g.length≠32 then ([],2) else (g,0)):=by have:=z.out;rwa [if_neg (by simpa using i)] at this
  rw[i] at k ⊢;clear z i;go_enter func120,ntmps120;go_wp2_with fail;obtain⟨u,l⟩:∃ u,w.alloc (.cells #[.slice Q 32 N,.slice P L M] 92)=u:=⟨_,rfl⟩;have K:Hid (Kp w u):=by unfold Hid;rw[<-l];exact(Kp.refl _).alloc _
  rw[l];clear l;refine(k.out u K.out).mono ?_;rintro _ w2 ⟨⟨q,rfl,A⟩,I⟩;obtain⟨R,O,rfl,X,V⟩:=A.shape;have S:=Lib.hid A;have H:=Lib.hid (K.out.trans I);clear A I k;by_cases m:p=0
  ·subst m
   have j:Hid (a=if g.length≠32 then ([],2) else (g,0)):=by have:=f.out;rwa [if_neg (by simp)] at this
   clear f;by_cases h:g.length=32
   ·have d:Hid (a=(g,0)):=by have:=j.out;rwa [if_neg (by simpa using h)] at this
    have s:(g.length:Int)=32:=by omega
    have c:Hid ((∃ r,Ending.returned (.tuple #[Value.slice R g.length O,.int .i64 0])=.returned (.tuple #[r,.int .i64 a.2])/\Rd w2 r a.1)/\Kp w w2):=by rw[d.out];exact⟨⟨_,rfl,S.out⟩,H.out⟩
    have n:((g.length:Int)==32)=true:=by rw[s];rfl
    have J:((g.length:Int) != 32)=false:=by rw[s];rfl
    clear j d h;go_wp2_with fail;go_ret2;exact c.out
   ·have d:Hid (a=([],2)):=by have:=j.out;rwa [if_pos h] at this
    have c:Hid ((∃ r,Ending.returned (.tuple #[Value.slice none 0 0,.int .i64 2])=.returned (.tuple #[r,.int .i64 a.2])/\Rd w2 r a.1)/\Kp w w2):=by rw[d.out];exact⟨⟨_,rfl,cL _⟩,H.out⟩
    have n:((g.length:Int)==32)=false:=Jd.2 (by omega);have t:¬(g.length:Int)=32:=by omega
    clear j d;go_wp2_with fail;go_ret2;exact c.out
  ·have d:Hid (a=([],p)):=by have:=f.out;rwa [if_pos m] at this
   have c:Hid ((∃ r,Ending.returned (.tuple #[Value.slice none 0 0,.int .i64 p])=.returned (.tuple #[r,.int .i64 a.2])/\Rd w2 r a.1)/\Kp w w2):=by rw[d.out];exact⟨⟨_,rfl,cL _⟩,H.out⟩
   have n:(p==0)=false:=Jd.2 m;clear f d;go_wp2_with fail;go_ret2;exact c.out
 ·have f:Hid (a=([],5)):=by have:=z.out;rwa [if_pos i] at this
  have n:((half.length:Int)==32)=false:=Jd.2 (by omega);have t:¬(half.length:Int)=32:=by omega
  have c:Hid (∀ W,Kp w W->(∃ r,Ending.returned (.tuple #[Value.slice none 0 0,.int .i64 5])=.returned (.tuple #[r,.int .i64 a.2])/\Rd W r a.1)/\Kp w W):=λW o=>by rw[f.out];exact⟨⟨_,rfl,cL _⟩,o⟩
  clear z k f;go_enter func120,ntmps120;go_wp2_with fail;go_ret2;exact c.out _ ((Kp.refl _).alloc _)
def pW (l:List Int)(x:Int)(r:Int):Prop:=(∃ k:Nat,r=(k:Int)/\k<l.length/\l.getD k 0=x)\/(r = -1/\x∉l)
theorem FH (aa:Value)(l:List Int)(x:Int)(w:World)(u:RI w aa l):
  Calls prog 132 #[aa,.int .i64 x] w λe w'=>(∃ r,e=.returned (.int .i64 r)/\pW l x r)/\w=w':=by
 obtain⟨a,c,rfl,p1,E⟩:=u.shape;unfold maxLen at E;have D:=Lib.hid u;have q:Hid (∀ k:Nat,k<l.length->l.getD k 0=x->pW l x (k:Int)):=λk o e=>.inl ⟨k,rfl,o,e⟩
 have s:Hid ((∀ k,k<l.length->l.getD k 0≠x)->pW l x (-1)):=λh=>.inr ⟨rfl,λI=>by
  obtain⟨k,o,e⟩:=JW I;exact h k o (by rw[IU,IV o];exact e)⟩
 generalize pW l x=L at *;obtain⟨N,B⟩:∃ N,l.length=N:=⟨_,rfl⟩;rw[B] at D q s p1 ⊢;clear u B;go_enter func132,ntmps132;go_wp2_with fail;go_loop [8] (λi=>∃ k:Nat,k<=N/\i=.int .i64 (k:Int)/\(∀ j,j<k->l.getD j 0≠x)) (λi=>(N - (intOf i).toNat))
 case atStart=>exact⟨0,Jl _,rfl,λt h=>by omega⟩
 case round=>
  obtain⟨k,o,rfl,d⟩:=hrel;by_cases f:k<N
  ·obtain⟨b,F,rfl,_,v⟩:=D.out.at k f
   have C:=v k f;have m:=Lib.hid (q.out k f);have n:=Lib.hid d;have H:IntKind.i64.wrap ((k:Int)+1)=(k:Int)+1:=IW _ (by omega);have G:(k:Int)<(N:Int):=by omega
   by_cases g:l.getD k 0=x
   ·have z:=Lib.hid (m.out g)
    have p:(x==l.getD k 0)=true:=by rw[g];exact beq_self_eq_true _
    rw[g] at C;clear v m n q s d g p;go_wp2_with fail;go_ret;exact⟨⟨_,rfl,z.out⟩,rfl⟩
   ·have K:Hid (∀ j,j<k+1->l.getD j 0≠x):=λj J=>by
     rcases JC (JN.1 J) with y|y
     ·exact n.out j y
     ·rw[y];exact g
    obtain⟨X,A⟩:∃ X,l.getD k 0=X:=⟨_,rfl⟩;rw[A] at C g;have p:(x==X)=false:=Jd.2 λe=>g e.symm
    clear v m n q s d A;go_wp2_with fail;go_round
    case rel=>exact⟨k+1,by omega,by first|rfl|(rw[H];rfl),K.out⟩
    case measure=>simp[intOf];omega
  ·obtain rfl:k=N:=by omega
   have z:=Lib.hid (s.out d);have G:¬(k:Int)<(k:Int):=by omega
   clear s d q;go_wp2_with fail;go_ret;exact⟨⟨_,rfl,z.out⟩,rfl⟩
theorem FJ (aa:Value)(l:List Int)(x:Int)(w:World)(b:RI w aa l):
  Calls prog 94 #[aa,.int .i64 x] w λe w'=>e=.returned (.bool (decide (x∈l)))/\w=w':=by
 have f:=Lib.hid (FH aa l x w b);obtain⟨a,n,c,rfl⟩:=b.sl;clear b;go_enter func94,ntmps94;go_wp2_with fail;refine f.out.mono ?_;rintro _ _ ⟨⟨r,rfl,d⟩,rfl⟩;have g:Hid (decide (0<=r)=decide (x∈l)):=by
  rcases d with⟨k,rfl,hk,e⟩|⟨rfl,hn⟩
  ·have:x∈l:=by
    rw[IU,IV hk] at e;exact(show l[k]=x from e)▸JD hk
   exact(Jy (show 0<=(k:Int) by omega)).trans (Jy this).symm
  ·exact(show decide (0<=(-1:Int))=false from rfl).trans (Jr hn).symm
 clear d f;go_wp2_with fail;go_ret;exact⟨by rw[<-g.out] <;> first|rfl|simp,rfl⟩
theorem FM (aa:Value)(seed:List UInt8)(n:Nod)(p q h:Value)(w:World)(m:Rd w aa seed)(d:NIn w n p q h):
  Calls prog 46 #[aa,.agg #[.int .i64 n.kind,.int .i64 n.name,p,q,h]] w λe w'=>aR e (jm seed=0/\dE seed=n.pub)/\Kp w w':=by
 have L:=Lib.hid (λW (o:Kp w W)=>pV aa seed W (m.kp o));have b:=Lib.hid (λW (o:Kp w W) (v:Value) (l:List UInt8) (O:Rd W v l)=>lX v p l n.pub W O (d.pub.kp o));generalize jm seed=t at *;generalize dE seed=R at *;obtain⟨au,X,Z,rfl⟩:=az m;obtain⟨H,z,E,rfl⟩:=az d.pub;obtain⟨G,y,D,rfl⟩:=d.un.sl;obtain⟨F,x,C,rfl⟩:=az d.hash;obtain⟨J,g⟩:∃ k,n.kind=k:=⟨_,rfl⟩;obtain⟨I,f⟩:∃ k,n.name=k:=⟨_,rfl⟩;rw[g,f];generalize n.pub=S at *;clear m d g f;go_enter func46,ntmps46;go_wp2_with fail;obtain⟨c,a⟩:∃ c,w.alloc (.cells #[.int .i64 J,.int .i64 I,.slice H z E,.slice G y D,.slice F x C] 81)=c:=⟨_,rfl⟩;have M:Hid (Bx c w.heap.size 81 #[.int .i64 J,.int .i64 I,.slice H z E,.slice G y D,.slice F x C]):=by unfold Hid;rw[<-a];exact Bx.new w _ _
 have K:Hid (Kp w c):=by unfold Hid;rw[<-a];exact(Kp.refl _).alloc _
 rw[a];clear a;refine(L.out c K.out).mono ?_;rintro _ w2 ⟨⟨r,rfl,i,N⟩,j⟩;obtain⟨a9,Y,c9,rfl⟩:=az i;have Q:=Lib.hid i;have u:=Lib.hid (K.out.trans j);have B:=(M.out.kp j).cell 2;simp only[Jj,Jg,Jk] at B;clear i N j L M;by_cases s:t=0
 ·subst s
  go_wp2_with fail;refine(b.out w2 u.out _ _ Q.out).mono ?_;rintro _ V ⟨rfl,A⟩;have T:=Lib.hid (u.out.trans A);clear A B b;go_wp2_with fail;go_ret;exact⟨⟨_,rfl,by simp⟩,T.out⟩
 ·have P:(t==0)=false:=Jd.2 s
  have U:Hid (¬(t=0/\R=S)):=λh=>s h.1
  clear b;go_wp2_with fail;go_ret;exact⟨aR.no U.out,u.out⟩
theorem FO (n:Nod)(x:Int)(p q h:Value)(w:World)(c:NIn w n p q h):
  Calls prog 47 #[.agg #[.int .i64 n.kind,.int .i64 n.name,p,q,h],.int .i64 x] w λe w'=>aR e (n.kind≠0/\x∉n.un)/\Kp w w':=by
 have C:=Lib.hid (λW (E:Kp w W)=>FJ q n.un x W (c.un.kp E));obtain⟨u,j,r,rfl⟩:=az c.pub;obtain⟨t,i,o,rfl⟩:=c.un.sl;obtain⟨s,g,m,rfl⟩:=az c.hash;obtain⟨v,d⟩:∃ k,n.name=k:=⟨_,rfl⟩;obtain⟨b,l⟩:∃ b,decide (x∈n.un)=b:=⟨_,rfl⟩;have F:Hid (b=true↔x∈n.un):=by unfold Hid;rw[<-l,decide_eq_true_iff]
 rw[l] at C;rw[d];generalize n.kind=a at *;generalize n.un=A at *;clear c d l;go_enter func47,ntmps47;have G:Hid (Bx (w.alloc (.cells #[.int .i64 a,.int .i64 v,.slice u j r,.slice t i o,.slice s g m] 81)) w.heap.size 81 #[.int .i64 a,.int .i64 v,.slice u j r,.slice t i o,.slice s g m]):=Bx.new w _ _;by_cases f:a=0
 ·subst f
  have y:Hid (¬((0:Int)≠0/\x∉A)):=λh=>h.1 rfl
  go_wp2_with fail;go_ret;exact⟨aR.no y.out,(Kp.refl _).alloc _⟩
 ·have D:(a==0)=false:=Jd.2 f
  have z:(a != 0)=true:=KX.2 f;have B:Hid (Kp w (w.alloc (.cells #[.int .i64 a,.int .i64 v,.slice u j r,.slice t i o,.slice s g m] 81))):=(Kp.refl _).alloc _;go_wp2_with fail;refine(C.out _ B.out).mono ?_;rintro _ _ ⟨rfl,rfl⟩;have y:Hid ((!b)=true↔a≠0/\x∉A):=by
   unfold Hid;rw[<-not_congr F.out];cases b <;> simp[f]
  go_wp2_with fail;go_ret;exact⟨⟨_,rfl,y.out⟩,B.out⟩
def fC (own:Sd->Prop)(s:List UInt8)(xs:List Nat)(n:Nat):Sd->Prop:=λy=>own y\/∃ a,a<n/\y=⟨((xs.getD a 0:Nat):Int),bw s a⟩
theorem yC {own:Sd->Prop}(y:Sd):fC own s xs 0 y↔own y:=by
 unfold fC;constructor
 ·rintro (h|⟨a,h,_⟩)
  ·exact h
  ·omega
 ·exact .inl
theorem yD {own:Sd->Prop}(f:xs.Nodup)(g:∀ a,own a->∀ x∈xs,a.node≠(x:Int))(h:n<xs.length)(y:Sd):
  fC own s xs (n+1) y↔(y=⟨((xs.getD n 0:Nat):Int),bw s n⟩\/(fC own s xs n y/\y.node≠((xs.getD n 0:Nat):Int))):=by
 have c:∀ a,(d:a<xs.length)->xs.getD a 0=xs[a]:=λa d=>by rw[IU,IV d];rfl
 unfold fC;constructor
 ·rintro (b|⟨a,b,rfl⟩)
  ·refine .inr ⟨.inl b,?_⟩
   rw[c n h];exact g y b _ (JD h)
  ·by_cases e:a=n
   ·subst e;exact .inl rfl
   ·refine .inr ⟨.inr ⟨a,by omega,rfl⟩,?_⟩
    rw[c n h,c a (by omega)];intro k;have j:xs[a]'(by omega)=xs[n]:=by dsimp only at k;omega
    exact e ((List.getElem_inj f).1 j)
 ·rintro (b|⟨b|⟨a,b,i⟩,_⟩)
  ·exact .inr ⟨n,by omega,b⟩
  ·exact .inl b
  ·exact .inr ⟨a,by omega,i⟩
theorem yE {own:List Sd}(c:xs.Nodup)(h:srt own)(e:∀ a∈own,∀ x∈xs,a.node≠(x:Int)){r:List Sd}(b:srt r)
 (d:∀ y,y∈r↔fC (λy=>y∈own) s xs xs.length y):r=cC own s xs:=Dq c h e b d
open Classical in
noncomputable def io (own:List Sd) (xs:List Nat):List Sd:=own.filter λs=>decide (¬∃ x∈xs,(x:Int)=s.node)
theorem Gs (own:List Sd):io own []=own:=by
 unfold io;rw[List.filter_eq_self];intro a _;simp
theorem og {own:List Sd}{y:Sd}:y∈io own xs↔y∈own/\∀ x∈xs,(x:Int)≠y.node:=by
 unfold io;rw[Mu];simp
theorem Gt {own:List Sd}(h:n<xs.length)(y:Sd):y∈io own (xs.take (n+1))↔(y∈io own (xs.take n)/\y.node≠((xs.getD n 0:Nat):Int)):=by
 rw[og,og,Jp h,IU,IV h];constructor
 ·rintro⟨c,b⟩
  exact⟨⟨c,λx a=>b x (JV.2 (.inl a))⟩,λe=>b _ (JV.2 (.inr (Ko.2 rfl))) e.symm⟩
 ·rintro⟨⟨c,b⟩,d⟩
  refine⟨c,λx a=>?_⟩;rcases JV.1 a with a|a
  ·exact b x a
  ·rw[Ko] at a
   subst a;exact λe=>d e.symm
theorem Gu {own:List Sd}(h:srt own)(xs:List Nat):srt (io own xs):=List.Pairwise.sublist List.filter_sublist h
theorem om {own:List Sd}:io own (aK K 0 i)=gH K i own:=rfl
def fN (l:List Nat)(t:List Nod):List Nod:=l.foldl (λo x=>o.set x aY) t
theorem sR:∀ (l:List Nat) (t:List Nod),(fN l t).length=t.length
 | [],_=>rfl
 | x :: l,t=>(sR l (t.set x aY)).trans (JA ..)
theorem Gv {l:List Nat}(h:j<l.length)(t:List Nod):fN (l.take (j+1)) t=(fN (l.take j) t).set (l.getD j 0) aY:=by
 unfold fN;rw[Jp h,List.foldl_append,IU,IV h];rfl
theorem yF:∀ (l:List Nat) (t:List Nod) (y:Nat),(∀ x∈l,x<t.length)->ats (fN l t) y=if y∈l then aY else ats t y
 | [],_,_,_=>rfl
 | x :: l,t,y,h=>by
  show ats (fN l (t.set x aY)) y=_
  rw[yF l _ y (λz hz=>by rw[JA];exact h z (by simp[hz])),fc _ _ _ _ (h x (by simp))]
  by_cases e1:y∈l
  ·rw[if_pos e1,if_pos (by simp[e1])]
  ·rw[if_neg e1]
   by_cases e2:y=x
   ·rw[if_pos e2,if_pos (by simp[e2])]
   ·rw[if_neg e2,if_neg (by simp[e1,e2])]
theorem Gw (a:aD t K)(c:i<2 ^ K)(pub:List UInt8):fN (aK K 0 i) (t.set (2*i) (aH (ats t (2*i)).name pub))=bj t i pub:=by
 have f:=a.len2;have b:2*i<t.length:=by omega
 refine tL (by rw[sR,JA,aD.updLen]) λy=>?_
 rw[yF _ _ _ (λx d=>by rw[JA,a.len];exact fd c d),fc _ _ _ _ b,a.updAt c];by_cases e:y=2*i
 ·subst e
  rw[if_neg (λh=>by have:=gU h;omega),if_pos rfl,if_pos rfl]
 ·rw[if_neg e,if_neg e]
theorem Gx {p:List St}(c:aD t K)(g:(ats t (2*i)).kind=1){pub:List UInt8}(k:pub.length=32)(j:∀ a,a<(aA t i K).length->(aC p a).pub.length=32):
  aD (bJ p 0 (aA t i K) (bj t i pub)) K:=by
 have l:=aD.lt_of (t:=t) (x:=2*i) (by rw[g];decide);have m:=c.len2;have n:i<2 ^ K:=by omega
 have o:=aD.updLen (t:=t) i pub;have f:∀ x∈aA t i K,x<(bj t i pub).length:=λx h=>by rw[o,c.len];exact fd n (fK h)
 refine(c.upd g k).over (nM _ _ _ _) λy=>?_
 by_cases b:y∈aA t i K
 ·obtain⟨a,d,rfl⟩:=JW b
  have e:=rN p (aA t i K) 0 (bj t i pub) (lP t i K) f a d;rw[JS,IU,IV d] at e;exact .inr ⟨gU (fK b),.inr ⟨_,j a d,e⟩⟩
 ·exact .inl (pB _ _ _ _ _ f b)
section
open Go.Shelf
attribute [local go_sem] Oper.semAt_some
theorem Rd.heldL {R:Nat->Prop}{B:World}(h:Rd A v l)(f:aT R A B)(d:∀ k,leads v k->R k):Rd B v l:=by
 obtain⟨a,c,e,p,o,n,m⟩:=h;subst e;refine⟨a,c,rfl,p,o,n,λx b i g=>?_⟩;have j:=m x b i g;subst b;exact f.cell j (by rw[fo];exact d _ ⟨x,_,c,rfl,by omega,rfl⟩)
theorem Rd.leads_lt (h:Rd A v l):∀ k,leads v k->k<A.heap.size:=by
 rintro k ⟨x,n,c,e,a,rfl⟩;exact h.inside x n c e a
theorem Ow.leads_lt {e:TypeId}{B:Nat}(h:Ow e A B v l):∀ k,leads v k->B<=k/\k<A.heap.size:=by
 rintro k ⟨x,n,c,rfl,a,rfl⟩;exact JP h _ rfl
theorem yP (Q:Nat->Prop):(∃ n,Q n)->∃ n,Q n/\∀ m,Q m->n<=m:=by
 rintro⟨n,b⟩
 induction n using Nat.strongRecOn with
 | ind n ih=>
  by_cases h:∃ m,m<n/\Q m
  ·obtain⟨m,e,d⟩:=h
   exact ih m e d
  ·exact⟨n,b,λm c=>ME λa=>h ⟨m,a,c⟩⟩
open Classical in
noncomputable def oo (Q:Nat->Prop):Nat:=if h:∃ n,Q n then Classical.choose (yP Q h) else 0
theorem yQ {Q:Nat->Prop}(h:∃ n,Q n):Q (oo Q)/\∀ m,Q m->oo Q<=m:=by
 unfold oo;rw[dif_pos h];exact Classical.choose_spec (yP Q h)
theorem Hh (v:Value)(l:List UInt8)(w:World)(b:Rd w v l):
  Calls prog 98 #[v] w λe w'=>e=.returned (.func (.func 133) #[] #[.pointer (some ⟨w.heap.size,0,none⟩)])/\w.alloc (.cells #[v] 24)=w':=by
 obtain⟨a,n,c,rfl⟩:=az b;clear b;go_enter func98,ntmps98;go_wp2_with fail;go_ret;exact⟨rfl,rfl⟩
theorem Hi (v:Value)(s:List UInt8)(N b:Nat)(w:World)(M:Rd w v s)(hs:s.length=32)(H:w.cell? ⟨b,0,none⟩=some v):
  yO prog 133 #[.pointer (some ⟨b,0,none⟩)] (λi aa Y A=>Rd A aa (aW s i)/\∀ k,leads aa k->Y k\/leads v k) N (λk=>k=b\/leads v k) w:=by
 intro l J Jx W f ak aj hJ al r hY h0;have ab:0<N:=Nat.pos_of_ne_zero (λe=>by subst e;exact r _ _ h0);have F:=f.cell H (.inl rfl);have C:Rd W v s:=M.heldL f (λk h=>.inr h);have HJ:=Lib.hid hJ;have HY:=Lib.hid hY;have ae:=Lib.hid r;have af:=Lib.hid f;have HV:=Lib.hid M;have HD:=Lib.hid (λW (aa:Value) i (hu:Rd W aa (aW s i))=>yj aa ⟨#[112,97,116,104]⟩ (aW s i) W hu (by decide) (by rw[jo hs i];omega));have HS:Hid (∀ i,br (aW s i) (⟨#[112,97,116,104]⟩:ByteArray).data.toList=aW s (i+1)):=λi=>rfl
 obtain⟨a0,n0,c0,rfl⟩:=az M;generalize Z:Value.slice a0 n0 c0=v at *;obtain⟨RL,I⟩:∃ RL:Nat->Value->World->Prop,(fun(i:Nat) (p:Value) (wr:World)=>∃ Y:Nat->Prop,Rd wr p (aW s i)/\(∀ k,leads p k->Y k\/leads v k)/\wr.cell? ⟨b,0,none⟩=some v/\aT (λk=>k=b\/leads v k) w wr/\J i Y wr/\(∀ j,Y j->W.heap.size<=j/\j<wr.heap.size)/\W.heap.size<=wr.heap.size)=RL:=⟨_,rfl⟩;have t:Hid (∀ i p wr,RL i p wr↔∃ Y:Nat->Prop,Rd wr p (aW s i)/\(∀ k,leads p k->Y k\/leads v k)/\wr.cell? ⟨b,0,none⟩=some v/\aT (λk=>k=b\/leads v k) w wr/\J i Y wr/\(∀ j,Y j->W.heap.size<=j/\j<wr.heap.size)/\W.heap.size<=wr.heap.size):=λi p wr=>by rw[<-I]
 have g:Hid (RL 0 v W):=(t.out _ _ _).2 ⟨_,C,λk c=>.inr c,F,f,h0,λ_ h=>h.elim,Ja _⟩;clear I hJ hY r H M f h0 C hs;subst Z;refine(callsIn_wide (n:=5)).1 ?_;refine callsIn_of_wp func133 rfl trivial ?_ rfl;simp only[ntmps133,Ka,Kj,Kb,Jo,Jt,Nat.reduceAdd,Nat.reduceSub,JX,JY,Kg,JR,Kc];gi_wp2
 gi_loopw [3] (λp wr=>∃ i:Nat,i<N/\RL i p wr) (λp wr=>oo λd=>∃ i:Nat,i<N/\d=N - i/\RL i p wr)
 case atStart=>exact⟨0,ab,g.out⟩
 case round=>
  clear F;obtain⟨i,X,hm,hr⟩:∃ i,i<N/\(oo λd=>∃ i:Nat,i<N/\d=N - i/\RL i u3 wr)=N - i/\RL i u3 wr:=by
   obtain⟨i0,h1,h2⟩:=hrel;obtain⟨⟨i,h3,h4,h5⟩,_⟩:=yQ (Q:=λd=>∃ i:Nat,i<N/\d=N - i/\RL i u3 wr) ⟨_,i0,h1,rfl,h2⟩;exact⟨i,h3,h4,h5⟩
  have HM:=Lib.hid hm;obtain⟨Y,K,U,H,f,V,m,D⟩:=(t.out _ _ _).1 hr;obtain⟨a3,n3,c3,rfl⟩:=az K;obtain⟨fn,tmps,O,ag,hy,hR⟩:=HY.out i Y wr _ 4 X V m f ⟨K,U⟩;have ah:prog.follows .mixedOrders=true:=by kernel_rfl
  have ai:prog.follows .lateStores=true:=by kernel_rfl
  clear hrel hm hr;gi_wp2
  have RD:=Lib.hid K;have x:=Lib.hid (Jb H (Jb f (Jb m (Jb D U))));have an:=Lib.hid V;clear H f m D U V K;refine hR.mono ?_;rintro e w2 ⟨a,(⟨rfl,E⟩|⟨rfl,T⟩)⟩
  ·have G:=a.cell x.out.1 (.inr (.inl rfl))
   have y:Rd w2 (.slice a3 n3 c3) (aW s i):=RD.out.heldL a λk c=>(x.out.2.2.2.2 k c).imp id .inr
   have B:aT (λk=>k=b\/leads (.slice a0 n0 c0) k) w w2:=x.out.2.1.trans (a.mono λ_ h=>.inr h);have HX:=Lib.hid (Jb G (Jb B (Jb E a.size)));have ad:=Lib.hid y;clear hy hR G B E a y;gi_wp2_with (refine⟨trivial,?_⟩;gi_at_call 104;refine(callsIn_wide.2 (HD.out w2 _ i ad.out)).mono ?_;rintro e P ⟨⟨v3,rfl,u⟩,z⟩;rw[HS.out] at u;obtain⟨a9,S,c9,rfl⟩:=az u.rd)
   obtain⟨q1,q2,R,L⟩:=HX.out;obtain⟨_,_,aV,p4,p5⟩:=x.out;have q:i+1<N:=by
    rcases JC (Nat.succ_le_of_lt X) with h|h
    ·exact h
    ·rw[show i+1=N from h] at R
     exact absurd R (ae.out _ _)
   have o:RL (i+1) (.slice a9 S c9) P:=(t.out _ _ _).2 ⟨λk=>(Y k/\¬leads (.slice a3 n3 c3) k)\/leads (.slice a9 S c9) k,u.rd,λk c=>.inl (.inr c),z.cell q1,q2.trans (aT.of_kp z),
    HJ.out (i+1) _ _ w2 P R (λk c=>⟨(aV k c.1).1,Jh (aV k c.1).2 L⟩) (am.of_kp z) (λk c=>c.imp id λh=>u.leads_lt k h),
    λk c=>c.elim (λh=>⟨(aV k h.1).1,Jh (aV k h.1).2 (Js L z.size)⟩) (λh=>⟨Js (Js p4 L) (u.leads_lt k h).1,(u.leads_lt k h).2⟩),Js p4 (Js L z.size)⟩
   refine⟨⟨i+1,q,o⟩,?_⟩;rw[HM.out];have:=(yQ (Q:=λd=>∃ i:Nat,i<N/\d=N - i/\RL i (.slice a9 S c9) P) ⟨_,i+1,q,rfl,o⟩).2 _ ⟨i+1,q,rfl,o⟩;omega
  ·clear hy hR
   gi_wp2
   refine bodyPost_end (results_none rfl _ _ _) rfl ?_;exact⟨⟨_,rfl⟩,_,λj h=>⟨(x.out.2.2.1 j h.1).1,Jh (x.out.2.2.1 j h.1).2 a.size⟩,.inr ⟨i,X,T⟩⟩

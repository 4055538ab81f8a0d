import Derived.Test.YthmhklmkgkfcpaaGreatDoorV22
set_option linter.all false
set_option maxHeartbeats 8000000
set_option maxRecDepth 100000
namespace Go.Proofs.YthmhklmkgkfcpaaGreatDoor
open Go.Proofs.Tryz Go.RowKit
variable {A:World}{l:List UInt8}{v:Value}
theorem xx (u:Value)(t:List Nod)(w:World)(i:NL w u t)(l:t.length<=100000):
  Calls prog 143 #[u] w λe w'=>e=.returned (.int .i64 ((iy t:Nat):Int))/\w=w':=by
 obtain⟨a,c,rfl,q,p⟩:=i.shape;obtain⟨o,n⟩:=rc (t:=t) l;have m:IntKind.i64.wrap ((lvs t:Nat):Int)=((lvs t:Nat):Int):=IA _ (by have:=jN (t:=t) l;omega);have f:=Lib.hid (xg ((lvs t:Nat):Int) w);by_cases b:bU ((lvs t:Nat):Int)=true
 ·rw[show fL ((lvs t:Nat):Int)=2*((lvs t:Nat):Int) - 1 from if_pos b,show fK ((lvs t:Nat):Int)=0 from if_pos b] at f
  by_cases j:2*lvs t=t.length+1
  ·rw[show iy t=lvs t from if_pos ⟨b,j⟩]
   have k:¬(2*((lvs t:Nat):Int) - 1≠(t.length:Int)):=by omega
   have g:(2*((lvs t:Nat):Int) - 1 != (t.length:Int))=false:=bne_eq_false_iff_eq.2 (by omega);have d:2*((lvs t:Nat):Int) - 1=(t.length:Int):=by omega
   rw[d] at f;clear b j i k g d;generalize ((lvs t:Nat):Int)=L at *;go_enter func143,ntmps143;go_wp2_with fail;refine f.out.mono ?_;rintro _ _ ⟨rfl,rfl⟩;go_wp2_with fail;go_ret;exact⟨rfl,rfl⟩
  ·rw[show iy t=0 from if_neg λh=>j h.2]
   have g:(2*((lvs t:Nat):Int) - 1 != (t.length:Int))=true:=Ki.2 (by omega);have d:¬2*((lvs t:Nat):Int) - 1=(t.length:Int):=by omega
   clear b j i;generalize 2*((lvs t:Nat):Int) - 1=M at *;generalize ((lvs t:Nat):Int)=L at *;go_enter func143,ntmps143;go_wp2_with fail;refine f.out.mono ?_;rintro _ _ ⟨rfl,rfl⟩;go_wp2_with fail;go_ret;exact⟨rfl,rfl⟩
 ·rw[show iy t=0 from if_neg λh=>b h.1]
  rw[show fL ((lvs t:Nat):Int)=0 from if_neg b,show fK ((lvs t:Nat):Int)=1 from if_neg b] at f;clear b i;generalize ((lvs t:Nat):Int)=L at *;go_enter func143,ntmps143;go_wp2_with fail;refine f.out.mono ?_;rintro _ _ ⟨rfl,rfl⟩;go_wp2_with fail;go_ret;exact⟨rfl,rfl⟩
theorem xy (u:Value)(t:List Nod)(K:Nat)(i:Int)(w:World)(l:NL w u t)(d:az t K):
  Calls prog 142 #[u,.int .i64 i] w λe w'=>e=.returned (.bool (decide (bd t i)))/\w=w':=by
 obtain⟨s,r,o⟩:=d.small;have x:=Lib.hid (xx u t w l (by omega));rw[(ns d.le d.len).1] at x;have g:=d.lv;have f:=bY d.le;obtain⟨a,c,rfl,p1,E⟩:=l.shape;by_cases v:0<=i
 ·obtain⟨k,rfl⟩:=IR v
  by_cases m:k<2 ^ K
  ·have j:2*k<t.length:=by omega
   obtain⟨b,B,rfl,_,z⟩:=l.at (2*k) j;obtain⟨p,q,h,y⟩:=z (2*k) j;have H:=y.kind;have D:((ats t (2*k)).kind != 0)=decide (bd t (k:Int)):=by
    by_cases n:(ats t (2*k)).kind=0
    ·rw[n,IS (λh=>by have:=(d.there_iff k).1 h;rw[n] at this;cases this)];rfl
    ·have m:(ats t (2*k)).kind=1:=by
      rcases d.even k with e|e
      ·rw[e] at n;exact absurd rfl n
      ·exact e.1
     rw[IY ((d.there_iff k).2 m),m];rfl
   have G:IntKind.i64.wrap (2*(k:Int))=((2*k:Nat):Int):=by rw[IA _ (by omega)];omega
   have F:((2*k:Nat):Int)<(t.length:Int):=by omega
   have C:(k:Int)<((2 ^ K:Nat):Int):=by omega
   generalize decide (bd t (k:Int))=L at *;generalize t.length=N at *;generalize ((2 ^ K:Nat):Int)=A at *;generalize (ats t (2*k)).kind=I at *;generalize 2*k=J at *;clear l d z y m v s r o g f j;go_enter func142,ntmps142;go_wp2_with fail;refine x.out.mono ?_;rintro _ _ ⟨rfl,rfl⟩;go_wp2_with fail;go_ret;exact⟨by rw[<-D] <;> rfl,rfl⟩
  ·rw[IS (show ¬bd t (k:Int) from λh=>by have:=h.2.1;omega)]
   have C:¬(k:Int)<((2 ^ K:Nat):Int):=by omega
   generalize ((2 ^ K:Nat):Int)=A at *;clear l d m s r o g f;go_enter func142,ntmps142;go_wp2_with fail;refine x.out.mono ?_;rintro _ _ ⟨rfl,rfl⟩;go_wp2_with fail;go_ret;exact⟨rfl,rfl⟩
 ·rw[IS (show ¬bd t i from λh=>v h.1)]
  clear l d s r o g f;generalize ((2 ^ K:Nat):Int)=A at *;go_enter func142,ntmps142;go_wp2_with fail;go_ret;exact⟨rfl,rfl⟩
theorem Fr (x a:Int)(w:World):
  Calls prog 146 #[.int .i64 x,.int .i64 a] w λe w'=>e=.returned (.int .i64 (if x<a then 1 else if a<x then 0 else 1))/\w=w':=by
 by_cases h:a<x
 ·have b:¬x<a:=by omega
  rw[if_neg b,if_pos h];clear b;go_enter func146,ntmps146;go_wp2_with fail;go_ret;exact⟨rfl,rfl⟩
 ·have e:(if x<a then (1:Int) else if a<x then 0 else 1)=1:=by split <;> simp[h]
  rw[e];clear e;go_enter func146,ntmps146;go_wp2_with fail;go_ret;exact⟨rfl,rfl⟩
theorem rU (x a:Int)(w:World)(b:Tab w):
  Calls prog 177 #[.int .i64 x,.int .i64 a] w λe w'=>e=.returned (.int .i64 (if a=1 then eF x else er x))/\w=w':=by
 by_cases h:a=1
 ·subst h
  rw[if_pos rfl];have c:=Lib.hid (xn x w b);generalize eF x=V at *;generalize chE x=E at *;clear b;go_enter func177,ntmps177;go_wp2_with fail;refine c.out.mono ?_;rintro _ _ ⟨rfl,rfl⟩;go_wp2_with fail;go_ret;exact⟨rfl,rfl⟩
 ·rw[if_neg h]
  have d:=Lib.hid (rP x w b);have f:(a==1)=false:=ID.2 h;generalize er x=V at *;generalize chE x=E at *;clear b;go_enter func177,ntmps177;go_wp2_with fail;refine d.out.mono ?_;rintro _ _ ⟨rfl,rfl⟩;go_wp2_with fail;go_ret;exact⟨rfl,rfl⟩
theorem xE (h f:Value)(s:ByteArray)(k a:List UInt8)(n:Int)(w:World)(m:Rd w h k)(l:Rd w f a)(r:s.size<=300)(d:a.length<=1400)(c:k.length<=2000)(b:-9223372036854775808<=n/\n<=9223372036854775807):
  Calls prog 131 #[.agg #[h,f],.string s,.int .i64 n] w λe w'=>(∃ v,e=.returned (.tuple #[v,.int .i64 (fe n)])/\Rd w' v (cL k s.data.toList a n)/\bg w.heap.size v)/\Kp w w':=by
 have D:Hid (∀ W,Kp w W->Calls prog 101 #[h,.string s,f,.int .i64 n] W λe w'=>(∃ v,e=.returned (.tuple #[v,.int .i64 (fe n)])/\Ow 5 w' W.heap.size v (cL k s.data.toList a n))/\Kp W w'):=λW t=>oN h s f k a n W (m.kp t) (l.kp t) r d c b
 obtain⟨z,p,x,rfl⟩:=m.sl;obtain⟨y,o,u,rfl⟩:=l.sl;clear m l r d c b;go_enter func131,ntmps131;go_wp2_with fail;refine(D.out _ ((Kp.refl _).alloc _)).mono ?_;rintro _ E ⟨⟨v,rfl,i⟩,q⟩;have A:=i.rd;have j:bg w.heap.size v:=bg.kp (w':=w.alloc (.cells #[.slice z p x,.slice y o u] 184)) (λg B=>i.own_ge g B) ((Kp.refl _).alloc _);have C:=((Kp.refl w).alloc (.cells #[.slice z p x,.slice y o u] 184)).trans q;clear i q;go_wp2_with fail;go_ret2;exact⟨⟨_,rfl,A,j⟩,C⟩
theorem xF (c b:Value)(s:ByteArray)(k a:List UInt8)(n:Int)(w:World)(i:Rd w c k)(h:Rd w b a)(j:s.size<=300)(g:a.length<=1400)(f:k.length<=2000)(d:-9223372036854775808<=n/\n<=9223372036854775807):
  Calls prog 131 #[.agg #[c,b],.string s,.int .i64 n] w λe w'=>(∃ v,e=.returned (.tuple #[v,.int .i64 (fe n)])/\Rd w' v (cL k s.data.toList a n))/\Kp w w':=
 (xE c b s k a n w i h j g f d).mono λe w' ⟨⟨v,i,h,_⟩,l⟩=>⟨⟨v,i,h⟩,l⟩
theorem pD (aa:Value)(seed:List UInt8)(w:World)(c:Rd w aa seed):
  Calls prog 93 #[aa] w λe w'=>(∃ r,e=.returned (.tuple #[r,.int .i64 (fj seed)])/\Rd w' r (dE seed)/\bg w.heap.size r)/\Kp w w':=by
 obtain⟨l,k,rfl,j,n⟩:=c.shape;by_cases a:seed.length=32
 ·rw[(eZ a).1,(eZ a).2]
  have d:Hid (Calls prog 131 #[.agg #[.slice l seed.length k,.slice none 0 0],.string ⟨#[112,117,98,108,105,99]⟩,.int .i64 32] w λe w'=>(∃ v,e=.returned (.tuple #[v,.int .i64 0])/\Rd w' v (aG seed)/\bg w.heap.size v)/\Kp w w'):=
   xE _ _ ⟨#[112,117,98,108,105,99]⟩ seed [] 32 w c (cR w) (by decide) (by simp) (by omega) (by omega)
  rw[a] at d j ⊢;clear c a;go_enter func93,ntmps93;go_wp2_with fail;refine d.out.mono ?_;rintro _ m ⟨⟨v,rfl,f,b⟩,g⟩;clear d;go_wp2_with fail;go_ret2;exact⟨⟨_,rfl,f,b⟩,g⟩
 ·rw[(jL a).1,(jL a).2]
  have i:((seed.length:Int)==32)=false:=ID.2 (by omega);have h:¬(seed.length:Int)=32:=by omega
  go_enter func93,ntmps93;go_wp2_with fail;go_ret2;exact⟨⟨_,rfl,cR _,bg.nil _ _ _⟩,Kp.refl _⟩
theorem FA (aa:Value)(seed:List UInt8)(w:World)(a:Rd w aa seed):
  Calls prog 93 #[aa] w λe w'=>(∃ r,e=.returned (.tuple #[r,.int .i64 (fj seed)])/\Rd w' r (dE seed))/\Kp w w':=
 (pD aa seed w a).mono λe w' ⟨⟨v,d,c,_⟩,b⟩=>⟨⟨v,d,c⟩,b⟩
theorem xG (aa v i:Value)(pub half info:List UInt8)(w:World)(m:Rd w aa pub)(l:Rd w v half)(g:Rd w i info)(p:pub.length=32)(q:half.length=32)(d:info.length<=1400):
  Calls prog 138 #[aa,v,i] w λe w'=>(∃ a b,e=.returned (.tuple #[a,b,.int .i64 0])/\Rd w' a (wkB pub half info)/\Rd w' b (wnB pub half info))/\Kp w w':=by
 obtain⟨Q,O,rfl,p1,X⟩:=m.shape;obtain⟨P,N,rfl,p2,V⟩:=l.shape;obtain⟨J,F,I,rfl⟩:=g.sl;have B:Hid (Calls prog 171 #[.slice Q pub.length O,.slice P half.length N] w λe w'=>(∃ a c,e=.returned (.slice a 32 c)/\Ow 5 w' w.heap.size (.slice a 32 c) (kU pub half))/\Kp w w'):=Bl _ _ pub half w m l (by omega) (by omega);have n:(kU pub half).length=32:=oI _ _;have L:Hid (∀ W s,Kp w W->Rd W s (kU pub half)->Calls prog 131 #[.agg #[s,.slice J F I],.string ⟨#[107,101,121]⟩,.int .i64 32] W λe w'=>(∃ r,e=.returned (.tuple #[r,.int .i64 0])/\Rd w' r (wkB pub half info))/\Kp W w'):=λW s t o=>
  xF s _ ⟨#[107,101,121]⟩ _ info 32 W o (g.kp t) (by decide) d (by omega) (by omega)
 have K:Hid (∀ W s,Kp w W->Rd W s (kU pub half)->Calls prog 131 #[.agg #[s,.slice J F I],.string ⟨#[110,111,110,99,101]⟩,.int .i64 12] W λe w'=>(∃ r,e=.returned (.tuple #[r,.int .i64 0])/\Rd w' r (wnB pub half info))/\Kp W w'):=λW s t o=>
  xF s _ ⟨#[110,111,110,99,101]⟩ _ info 12 W o (g.kp t) (by decide) d (by omega) (by omega)
 rw[p,q] at B;rw[p] at p1 ⊢;rw[q] at p2 ⊢;clear m l g p q d n;have M:∀ (H:Fn) (first f:Array Value) (w:World),(Instr.makeFunc H first f).run prog w=.ok (.func H first f) w:=λ_ _ _ _=>rfl
 go_enter func138,ntmps138;go_wp2_with fail;refine B.out.mono ?_;rintro _ U ⟨⟨x,y,rfl,E⟩,G⟩;have A:=Lib.hid G;have h:=Lib.hid E.rd;clear B E G;go_wp2_with fail;refine(L.out _ _ A.out h.out).mono ?_;rintro _ w2 ⟨⟨a,rfl,D⟩,k⟩;have z:=Lib.hid (A.out.trans k);have u:=Lib.hid D;have h:=Lib.hid (h.out.kp k);clear L D k A;go_wp2_with fail;refine(K.out _ _ z.out h.out).mono ?_;rintro _ T ⟨⟨b,rfl,C⟩,j⟩;have S:=Lib.hid (z.out.trans j);have R:=Lib.hid C;have u:=Lib.hid (u.out.kp j);clear K C j z;go_wp2_with fail;go_ret3
 exact⟨⟨_,_,rfl,u.out,R.out⟩,S.out⟩
theorem xH (aa v i:Value)(pub half:List UInt8)(w:World)(c:Rd w aa pub)(b:Rd w v half)(a:¬(pub.length=32/\half.length=32)):
  Calls prog 138 #[aa,v,i] w λe w'=>e=.returned (.tuple #[.slice none 0 0,.slice none 0 0,.int .i64 1])/\Kp w w':=by
 obtain⟨p,n,rfl,p1,k⟩:=c.shape;obtain⟨o,m,rfl,p2,j⟩:=b.shape;by_cases d:pub.length=32
 ·have l:¬half.length=32:=λh=>a ⟨d,h⟩
  have g:((half.length:Int)==32)=false:=ID.2 (by omega);have f:¬(half.length:Int)=32:=by omega
  rw[d] at p1 ⊢;clear c b d a;go_enter func138,ntmps138;go_wp2_with fail;go_ret3
  exact⟨rfl,Kp.refl _⟩
 ·have g:((pub.length:Int)==32)=false:=ID.2 (by omega)
  have f:¬(pub.length:Int)=32:=by omega
  clear c b a;go_enter func138,ntmps138;go_wp2_with fail;go_ret3
  exact⟨rfl,Kp.refl _⟩
theorem FC (u1 u2 u3 u4:Value)(pub once info b:List UInt8)(w:World)(E:Rd w u1 pub)(I:Rd w u2 once)(H:Rd w u3 info)(G:Rd w u4 b)(d:info.length<=1400)(t:b.length<=1600):
  Calls prog 102 #[u1,u2,u3,u4] w λe w'=>(∃ x y,e=.returned (.tuple #[x,y,.int .i64 (qW pub once)])/\Rd w' x (il pub once)/\Rd w' y (io pub once info b)/\bg w.heap.size x/\bg w.heap.size y)/\Kp w w':=by
 have l:=Lib.hid (pD u2 once w I);by_cases c:once.length=32
 ·rw[(eZ c).1,(eZ c).2] at l
  by_cases A:pub.length=32
  ·obtain⟨j,i,g⟩:=qX (pub:=pub) (once:=once) info b ⟨c,A⟩
   rw[j,i,g];have F:Hid (∀ W v,Kp w W->Rd W v (aG once)->Calls prog 138 #[u1,v,u3] W λe w'=>(∃ a b,e=.returned (.tuple #[a,b,.int .i64 0])/\Rd w' a (wkB pub (aG once) info)/\Rd w' b (wnB pub (aG once) info))/\Kp W w'):=λW v B K=>
    xG u1 v u3 pub _ info W (E.kp B) K (H.kp B) A (fT _) d
   have S:Hid (∀ W k n,Kp w W->Rd W k (wkB pub (aG once) info)->Rd W n (wnB pub (aG once) info)->Calls prog 139 #[k,n,.slice none 0 0,u4] W λe w'=>(∃ r,e=.returned (.tuple #[r,.int .i64 0])/\Rd w' r (iO pub (aG once) info b)/\bg W.heap.size r)/\Kp W w'):=λW k n B U T=>by
    have:=Fy k n (.slice none 0 0) u4 _ _ [] b W U T (cR W) (G.kp B) (by simp;omega);rwa [show oR (wkB pub (aG once) info) (wnB pub (aG once) info)=0 from if_pos (qV _ _ _),show oU (wkB pub (aG once) info) (wnB pub (aG once) info) [] b=iO pub (aG once) info b from if_pos (qV _ _ _)] at this
   clear E I H G d t c A j i g;go_enter func102,ntmps102;go_wp2_with fail;refine l.out.mono ?_;rintro _ M ⟨⟨p,rfl,m,q⟩,s⟩;have u:=Lib.hid s;have f:=Lib.hid m;clear l m s;go_wp2_with fail;refine(F.out _ _ u.out f.out).mono ?_;rintro _ w2 ⟨⟨k,n,rfl,P,O⟩,z⟩;have C:=Lib.hid (u.out.trans z);have f:=Lib.hid (f.out.kp z);have R:=Lib.hid P;have Q:=Lib.hid O;clear F P O z u;go_wp2_with fail;refine(S.out _ _ _ C.out R.out Q.out).mono ?_;rintro _ Y ⟨⟨o,rfl,N,D⟩,J⟩;have L:=Lib.hid (D.kp C.out);have X:=Lib.hid (C.out.trans J);have f:=Lib.hid (f.out.kp J);have V:=Lib.hid N;clear S N J C R Q D;go_wp2_with fail;go_ret3
   exact⟨⟨_,_,rfl,f.out,V.out,q,L.out⟩,X.out⟩
  ·obtain⟨j,i,g⟩:=uP (pub:=pub) (once:=once) info b (λh=>A h.2)
   rw[j,i,g];have F:Hid (∀ W v,Kp w W->Rd W v (aG once)->Calls prog 138 #[u1,v,u3] W λe w'=>e=.returned (.tuple #[.slice none 0 0,.slice none 0 0,.int .i64 1])/\Kp W w'):=λW v B K=>
    xH u1 v u3 pub _ W (E.kp B) K (λh=>A h.1)
   clear E I H G d t c A j i g;go_enter func102,ntmps102;go_wp2_with fail;refine l.out.mono ?_;rintro _ M ⟨⟨p,rfl,m,q⟩,s⟩;have u:=Lib.hid s;have f:=Lib.hid m;clear l m s;go_wp2_with fail;refine(F.out _ _ u.out f.out).mono ?_;rintro _ w2 ⟨rfl,z⟩;have C:=Lib.hid (u.out.trans z);clear F z u f;go_wp2_with fail;go_ret3
   exact⟨⟨_,_,rfl,cR _,cR _,bg.nil _ _ _,bg.nil _ _ _⟩,C.out⟩
 ·obtain⟨j,i,g⟩:=uP (pub:=pub) (once:=once) info b (λh=>c h.1)
  rw[j,i,g];rw[(jL c).1,(jL c).2] at l;clear E I H G d t c j i g;go_enter func102,ntmps102;go_wp2_with fail;refine l.out.mono ?_;rintro _ M ⟨⟨p,rfl,m,q⟩,s⟩;clear l m;go_wp2_with fail;go_ret3
  exact⟨⟨_,_,rfl,cR _,cR _,bg.nil _ _ _,bg.nil _ _ _⟩,s⟩
theorem FD (u1 u2 u3 u4:Value)(seed half info b:List UInt8)(w:World)(F:Rd w u1 seed)(y:Rd w u2 half)(D:Rd w u3 info)(C:Rd w u4 b)(d:info.length<=1400)(m:b.length<=1600):
  Calls prog 159 #[u1,u2,u3,u4] w λe w'=>(∃ x,e=.returned (.tuple #[x,.int .i64 (unE seed half info b)])/\Rd w' x (unR seed half info b))/\Kp w w':=by
 have i:=Lib.hid (FA u1 seed w F);by_cases c:seed.length=32
 ·rw[(eZ c).1,(eZ c).2] at i
  by_cases s:half.length=32
  ·obtain⟨g,f⟩:=uQ (seed:=seed) (half:=half) info b ⟨c,s⟩
   rw[g,f];have B:Hid (∀ W v,Kp w W->Rd W v (aG seed)->Calls prog 138 #[v,u2,u3] W λe w'=>(∃ a b,e=.returned (.tuple #[a,b,.int .i64 0])/\Rd w' a (wkB (aG seed) half info)/\Rd w' b (wnB (aG seed) half info))/\Kp W w'):=λW v t G=>
    xG v u2 u3 _ half info W G (y.kp t) (D.kp t) (fT _) s d
   have O:Hid (∀ W k n,Kp w W->Rd W k (wkB (aG seed) half info)->Rd W n (wnB (aG seed) half info)->Calls prog 194 #[k,n,.slice none 0 0,u4] W λe w'=>(∃ r,e=.returned (.tuple #[r,.int .i64 (fi (wkB (aG seed) half info) (wnB (aG seed) half info) [] b)])/\Rd w' r (fB (wkB (aG seed) half info) (wnB (aG seed) half info) [] b))/\Kp W w'):=λW k n t Q P=>
    Fz k n (.slice none 0 0) u4 _ _ [] b W Q P (cR W) (C.kp t) (by simp;omega)
   generalize fi (wkB (aG seed) half info) (wnB (aG seed) half info) [] b=E at *;generalize fB (wkB (aG seed) half info) (wnB (aG seed) half info) [] b=R at *;clear F y D C d m c s g f;go_enter func159,ntmps159;go_wp2_with fail;refine i.out.mono ?_;rintro _ H ⟨⟨p,rfl,j⟩,l⟩;have q:=Lib.hid l;have z:=Lib.hid j;clear i j l;go_wp2_with fail;refine(B.out _ _ q.out z.out).mono ?_;rintro _ w2 ⟨⟨k,n,rfl,K,J⟩,u⟩;have A:=Lib.hid (q.out.trans u);have N:=Lib.hid K;have M:=Lib.hid J;clear B K J u q z;go_wp2_with fail;refine(O.out _ _ _ A.out N.out M.out).mono ?_;rintro _ U ⟨⟨o,rfl,I⟩,L⟩;have T:=Lib.hid (A.out.trans L);have S:=Lib.hid I;clear O I L A N M;go_wp2_with fail;go_ret2;exact⟨⟨_,rfl,S.out⟩,T.out⟩
  ·obtain⟨g,f⟩:=uR (seed:=seed) (half:=half) info b (λh=>s h.2)
   rw[g,f];have B:Hid (∀ W v,Kp w W->Rd W v (aG seed)->Calls prog 138 #[v,u2,u3] W λe w'=>e=.returned (.tuple #[.slice none 0 0,.slice none 0 0,.int .i64 1])/\Kp W w'):=λW v t G=>
    xH v u2 u3 _ half W G (y.kp t) (λh=>s h.2)
   clear F y D C d m c s g f;go_enter func159,ntmps159;go_wp2_with fail;refine i.out.mono ?_;rintro _ H ⟨⟨p,rfl,j⟩,l⟩;have q:=Lib.hid l;have z:=Lib.hid j;clear i j l;go_wp2_with fail;refine(B.out _ _ q.out z.out).mono ?_;rintro _ w2 ⟨rfl,u⟩;have A:=Lib.hid (q.out.trans u);clear B u q z;go_wp2_with fail;go_ret2;exact⟨⟨_,rfl,cR _⟩,A.out⟩
 ·obtain⟨g,f⟩:=uR (seed:=seed) (half:=half) info b (λh=>c h.1)
  rw[g,f];rw[(jL c).1,(jL c).2] at i;clear F y D C d m c g f;go_enter func159,ntmps159;go_wp2_with fail;refine i.out.mono ?_;rintro _ H ⟨⟨p,rfl,j⟩,l⟩;clear i j;go_wp2_with fail;go_ret2;exact⟨⟨_,rfl,cR _⟩,l⟩
theorem rV (aa:Value)(t:List Nod)(w:World)(i:NL w aa t)(l:t.length<=100000):
  Calls prog 89 #[aa] w λe w'=>e=.returned (.int .i64 ((iy t:Nat):Int))/\w=w':=by
 obtain⟨a,c,rfl,q,p⟩:=i.shape;obtain⟨o,n⟩:=rc (t:=t) l;have m:IntKind.i64.wrap ((lvs t:Nat):Int)=((lvs t:Nat):Int):=IA _ (by have:=jN (t:=t) l;omega);have f:=Lib.hid (xg ((lvs t:Nat):Int) w);by_cases b:bU ((lvs t:Nat):Int)=true
 ·rw[show fL ((lvs t:Nat):Int)=2*((lvs t:Nat):Int) - 1 from if_pos b,show fK ((lvs t:Nat):Int)=0 from if_pos b] at f
  by_cases j:2*lvs t=t.length+1
  ·rw[show iy t=lvs t from if_pos ⟨b,j⟩]
   have k:¬(2*((lvs t:Nat):Int) - 1≠(t.length:Int)):=by omega
   have g:(2*((lvs t:Nat):Int) - 1 != (t.length:Int))=false:=bne_eq_false_iff_eq.2 (by omega);have d:2*((lvs t:Nat):Int) - 1=(t.length:Int):=by omega
   rw[d] at f;clear b j i k g d;generalize ((lvs t:Nat):Int)=L at *;go_enter func89,ntmps89;go_wp2_with fail;refine f.out.mono ?_;rintro _ _ ⟨rfl,rfl⟩;go_wp2_with fail;go_ret;exact⟨rfl,rfl⟩
  ·rw[show iy t=0 from if_neg λh=>j h.2]
   have g:(2*((lvs t:Nat):Int) - 1 != (t.length:Int))=true:=Ki.2 (by omega);have d:¬2*((lvs t:Nat):Int) - 1=(t.length:Int):=by omega
   clear b j i;generalize 2*((lvs t:Nat):Int) - 1=M at *;generalize ((lvs t:Nat):Int)=L at *;go_enter func89,ntmps89;go_wp2_with fail;refine f.out.mono ?_;rintro _ _ ⟨rfl,rfl⟩;go_wp2_with fail;go_ret;exact⟨rfl,rfl⟩
 ·rw[show iy t=0 from if_neg λh=>b h.1]
  rw[show fL ((lvs t:Nat):Int)=0 from if_neg b,show fK ((lvs t:Nat):Int)=1 from if_neg b] at f;clear b i;generalize ((lvs t:Nat):Int)=L at *;go_enter func89,ntmps89;go_wp2_with fail;refine f.out.mono ?_;rintro _ _ ⟨rfl,rfl⟩;go_wp2_with fail;go_ret;exact⟨rfl,rfl⟩
theorem nA (aa:Value)(t:List Nod)(K:Nat)(i:Int)(w:World)(l:NL w aa t)(d:az t K):
  Calls prog 42 #[aa,.int .i64 i] w λe w'=>e=.returned (.bool (decide (bd t i)))/\w=w':=by
 obtain⟨s,r,o⟩:=d.small;have v:=Lib.hid (rV aa t w l (by omega));rw[(ns d.le d.len).1] at v;have g:=d.lv;have f:=bY d.le;obtain⟨a,c,rfl,p1,D⟩:=l.shape;by_cases u:0<=i
 ·obtain⟨k,rfl⟩:=IR u
  by_cases m:k<2 ^ K
  ·have j:2*k<t.length:=by omega
   obtain⟨b,A,rfl,_,y⟩:=l.at (2*k) j;obtain⟨p,q,h,x⟩:=y (2*k) j;have G:=x.kind;have C:((ats t (2*k)).kind != 0)=decide (bd t (k:Int)):=by
    by_cases n:(ats t (2*k)).kind=0
    ·rw[n,IS (λh=>by have:=(d.there_iff k).1 h;rw[n] at this;cases this)];rfl
    ·have m:(ats t (2*k)).kind=1:=by
      rcases d.even k with e|e
      ·rw[e] at n;exact absurd rfl n
      ·exact e.1
     rw[IY ((d.there_iff k).2 m),m];rfl
   have F:IntKind.i64.wrap (2*(k:Int))=((2*k:Nat):Int):=by rw[IA _ (by omega)];omega
   have E:((2*k:Nat):Int)<(t.length:Int):=by omega
   have B:(k:Int)<((2 ^ K:Nat):Int):=by omega
   generalize decide (bd t (k:Int))=J at *;generalize t.length=N at *;generalize ((2 ^ K:Nat):Int)=z at *;generalize (ats t (2*k)).kind=H at *;generalize 2*k=I at *;clear l d y x m u s r o g f j;go_enter func42,ntmps42;go_wp2_with fail;refine v.out.mono ?_;rintro _ _ ⟨rfl,rfl⟩;go_wp2_with fail;go_ret;exact⟨by rw[<-C] <;> rfl,rfl⟩
  ·rw[IS (show ¬bd t (k:Int) from λh=>by have:=h.2.1;omega)]
   have B:¬(k:Int)<((2 ^ K:Nat):Int):=by omega
   generalize ((2 ^ K:Nat):Int)=z at *;clear l d m s r o g f;go_enter func42,ntmps42;go_wp2_with fail;refine v.out.mono ?_;rintro _ _ ⟨rfl,rfl⟩;go_wp2_with fail;go_ret;exact⟨rfl,rfl⟩
 ·rw[IS (show ¬bd t i from λh=>u h.1)]
  clear l d s r o g f;generalize ((2 ^ K:Nat):Int)=z at *;go_enter func42,ntmps42;go_wp2_with fail;go_ret;exact⟨rfl,rfl⟩
theorem FE (w:World){t:List Nod}{K:Nat}(a:az t K){i:Nat}(b:i<2 ^ K)(c:Tab w):
  Calls prog 92 #[.int .i64 (2*(i:Int)),.int .i64 ((2 ^ K:Nat):Int)] w λe w'=>(∃ v,e=.returned (.tuple #[v,.int .i64 0])/\ON 3 w' w.heap.size v (aC K 0 i))/\Kp w w':=by
 have:=xw K 0 i w a.le (IO _) (by simpa using b) c;rw[ep] at this;rwa [show((2*i:Nat):Int)=2*(i:Int) by omega] at this
theorem xI (aa:Value)(t:List Nod)(K i:Nat)(w:World)(f:NL w aa t)(b:az t K)(k:i<2 ^ K)(l:Tab w):
  Calls prog 45 #[aa,.int .i64 (i:Int)] w λe w'=>(∃ v,e=.returned v/\ON 3 w' w.heap.size v (aC K 0 i))/\Kp w w':=by
 obtain⟨q,p,o⟩:=b.small;have g:=bY b.le;have h:=Lib.hid (rV aa t w f (by omega));rw[(ns b.le b.len).1] at h;have n:=Lib.hid (FE w b k l);have u:IntKind.i64.wrap (2*(i:Int))=2*(i:Int):=IA _ (by omega);obtain⟨a,c,rfl,_,_⟩:=f.shape;generalize aC K 0 i=z at *;generalize ((2 ^ K:Nat):Int)=A at *;generalize t.length=N at *;clear f b k q p o g l;go_enter func45,ntmps45;go_wp2_with fail;refine h.out.mono ?_;rintro _ _ ⟨rfl,rfl⟩;go_wp2_with fail;refine n.out.mono ?_;rintro _ r ⟨⟨v,rfl,d⟩,j⟩;have m:=Lib.hid (IC d j);obtain⟨y,s,x,rfl⟩:=d.rn.sl;clear d j n h;go_wp2_with fail;go_ret;exact⟨⟨_,rfl,m.out.1⟩,m.out.2⟩
theorem xJ (aa:Value)(seed:List UInt8)(w:World)(d:Rd w aa seed):
  Calls prog 55 #[aa] w λe w'=>(∃ r,e=.returned r/\Rd w' r (dE seed)/\bg w.heap.size r)/\Kp w w':=by
 have i:=Lib.hid (pD aa seed w d);obtain⟨a,n,c,rfl⟩:=aA d;clear d;go_enter func55,ntmps55;go_wp2_with fail;refine i.out.mono ?_;rintro _ j ⟨⟨v,rfl,b,g⟩,h⟩;have f:=Lib.hid (IC b (IC g h));obtain⟨m,k,l,rfl⟩:=aA b;clear b h g i;go_wp2_with fail;go_ret;exact⟨⟨_,rfl,f.out.1,f.out.2.1⟩,f.out.2.2⟩
theorem xK (d:Value)(s:ByteArray)(k:List UInt8)(w:World)(g:Rd w d k)(l:s.size<=300)(b:k.length<=2000):
  Calls prog 104 #[d,.string s] w λe w'=>(∃ v,e=.returned v/\Ow 5 w' w.heap.size v (bQ k s.data.toList))/\Kp w w':=by
 have h:=Lib.hid (BB d s k w g l b);rw[wZ] at h;generalize bQ k s.data.toList=D at *;obtain⟨a,n,c,rfl⟩:=aA g;clear g b;go_enter func104,ntmps104;go_wp2_with fail;refine h.out.mono ?_;rintro _ m ⟨⟨v,rfl,f⟩,i⟩;have j:=Lib.hid (IC f i);obtain⟨q,o,p,rfl⟩:=aA f.rd;clear f i h;go_wp2_with fail;go_ret;exact⟨⟨_,rfl,j.out.1⟩,j.out.2⟩
def lm (own:List Sd):Prop:=∀ k,0<k->k<own.length->(aK own (k - 1)).node<(aK own k).node
theorem xL {own:List Sd}:lm own↔srt own:=by
 constructor
 ·intro h
  have c:∀ d a,a+d+1<own.length->(aK own a).node<(aK own (a+d+1)).node:=λd=>by
   induction d with
   | zero=>exact λa e=>by have:=h (a+0+1) (by omega) e;rwa [show a+0+1 - 1=a by omega] at this
   | succ d ih=>
    intro a e;have l:=ih a (by omega);have g:=h (a+(d+1)+1) (by omega) e;rw[show a+(d+1)+1 - 1=a+d+1 by omega] at g;exact Int.lt_trans l g
  refine Jv.2 λa b e i j=>?_
  have:=c (b - a - 1) a (by omega);rwa [show a+(b - a - 1)+1=b by omega,fG e,fG i] at this
 ·intro h k m f
  rw[fG f,fG (show k - 1<own.length by omega)];exact Jv.1 h (k - 1) k (by omega) f (by omega)
theorem xM (aa:Value)(own:List Sd)(w:World)(u:SL w aa own):Calls prog 43 #[aa] w λe w'=>aL e (lm own)/\Kp w w':=by
 obtain⟨a,c,rfl,p1,F⟩:=SE.shape u;unfold maxLen at F;have D:=Lib.hid u;have d:Hid (∀ k,0<k->k<own.length->¬(aK own (k - 1)).node<(aK own k).node->¬lm own):=λk o H h e=>h (e k o H)
 have b:Hid ((∀ k,0<k->k<own.length->(aK own (k - 1)).node<(aK own k).node)->lm own):=λh=>h
 generalize lm own=P at *;obtain⟨N,z⟩:∃ N,own.length=N:=⟨_,rfl⟩;have E:=Lib.hid z;rw[z] at p1 D d b ⊢;clear u z;go_enter func43,ntmps43;go_wp2_with fail;go_loopw[3] (λi wr=>∃ m:Nat,i=.int .i64 ((m:Int)+1)/\(∀ j,0<j->j<m+1->j<N->(aK own (j - 1)).node<(aK own j).node)/\Kp w wr) (λi _=>(N+1 - (intOf i).toNat))
 case atStart=>exact⟨0,rfl,λj o W=>by omega,Kp.refl _⟩
 case round=>
  obtain⟨m,rfl,f,q⟩:=hrel;have g:=Lib.hid f;have r:=Lib.hid q;clear f q;by_cases p:m+1<N
  ·obtain⟨g1,Q,K,M,C,_,c1,_,_⟩:=SL.node (i:=m+1) (aH.kp D.out r.out) (by rw[E.out];exact p)
   obtain⟨Z,O,J,L,B,_,d1,_,_⟩:=SL.node (i:=m) (aH.kp D.out r.out) (by rw[E.out];omega);rw[E.out] at C B;simp only[IG] at C;obtain⟨rfl,_,rfl⟩:=C;simp only[IG,Jo,JY,and_true] at B;obtain⟨⟨rfl,rfl⟩,y⟩:=B;clear y;have V:IntKind.i64.wrap ((m:Int)+1+1)=(m:Int)+1+1:=IA _ (by omega);have U:IntKind.i64.wrap ((m:Int)+1 - 1)=(m:Int):=by rw[IA _ (by omega)];omega
   have G:(m:Int)+1<(N:Int):=by omega
   have T:(m:Int)<(N:Int):=by omega
   have S:(0:Int)<=(m:Int)+1:=by omega
   have R:((m:Int)+1).toNat=m+1:=by omega
   have n:Hid (¬(aK own m).node<(aK own (m+1)).node->¬P):=λh=>d.out (m+1) (by omega) p (by simpa using h)
   have l:Hid ((aK own m).node<(aK own (m+1)).node->∀ j,0<j->j<m+1+1->j<N->(aK own (j - 1)).node<(aK own j).node):=λh j o x v=>by
    rcases Jc (Jn.1 x) with A|A
    ·exact g.out j o A v
    ·rw[A];simpa using h
   clear d b g;generalize (aK own (m+1)).node=X at *;generalize (aK own m).node=Y at *;by_cases t:Y<X
   ·have s:=Lib.hid (l.out t)
    have I:¬X<=Y:=by omega
    clear l n;go_wp2_with fail;go_region
    go_wp2_with fail;go_roundw
    case rel=>exact⟨m+1,by go_num,s.out,r.out.drew⟩
    case measure=>simp[intOf];omega
   ·have s:=Lib.hid (n.out (by omega))
    have I:X<=Y:=by omega
    clear l n;go_wp2_with fail;go_region
    go_wp2_with fail;go_ret;exact⟨aL.no s.out,r.out.drew⟩
  ·have s:=Lib.hid (b.out λj o x=>g.out j o (by omega) x)
   have G:¬(m:Int)+1<(N:Int):=by omega
   clear d b;go_wp2_with fail;go_ret;exact⟨aL.yes s.out,r.out⟩
theorem Gq {n:Nod}(g:List Int)(h:n.kind≠2):dL (fx n g)=dL n:=by
 unfold dL fx;simp only[h,if_false]
theorem Gr (L y:Value)(t:List Nod)(g:List Int)(K q:Nat)(w:World)(k:bq t K)(Q:NL w L t)(E:Cnt w y g)(d:Tab w)(D:q<2 ^ K):
  Calls prog 176 #[L,.int .i64 ((nd 0 q:Nat):Int),y] w λe w'=>(∃ r,e=.returned r/\Ow 5 w' w.heap.size r (dz t g 0 q))/\Kp w w':=by
 obtain⟨Z,x2⟩:=k.lt (j:=0) (IO _) (by simpa using D);have hk:=bY k.le;obtain⟨b,ab,c,p,aa,h,rfl,a⟩:=Q.node Z;obtain⟨c0,c1,c2,c3,c4⟩:=IC a.kind (IC a.name (IC a.pubC (IC a.unC a.hashC)));have o:nd 0 q=2*q:=ep q;have u:(ats t (nd 0 q)).kind≠2:=λe=>by have:=k.par _ e;omega
 have R:dL (if ((nd 0 q:Nat):Int)∈g.map (2*·) then aY else fx (ats t (nd 0 q)) g)=dL (if (q:Int)∈g then aY else ats t (nd 0 q)):=by
  have e:((nd 0 q:Nat):Int)=2*(q:Int):=by omega
  rw[e];by_cases x:(q:Int)∈g
  ·rw[if_pos ((si g _).2 x),if_pos x]
  ·rw[if_neg (λh=>x ((si g _).1 h)),if_neg x,Gq g u]
 have i:dM (if ((nd 0 q:Nat):Int)∈g.map (2*·) then aY else fx (ats t (nd 0 q)) g):=by
  split
  ·exact dM.blank
  ·exact(k.node _).less g
 have n:=Lib.hid (yd (.agg (bV (ats t (nd 0 q)) p aa h).toArray) y (ats t (nd 0 q)) ((nd 0 q:Nat):Int) g w ⟨p,aa,h,rfl,a.2⟩ (k.node _) E (by omega));have HD:Hid (dz t g 0 q=bH ([1]++[be 2 q,dL (if ((nd 0 q:Nat):Int)∈g.map (2*·) then aY else fx (ats t (nd 0 q)) g)].flatten)):=by unfold Hid;rw[R];simp[dz]
 rw[HD.out];have s:=(oz i).1;generalize (if ((nd 0 q:Nat):Int)∈g.map (2*·) then aY else fx (ats t (nd 0 q)) g)=m9 at *;have F:=Lib.hid i;have G:=Lib.hid s;obtain⟨_,J,I⟩:=dX k.le (IO K) (show q<2 ^ (K - 0) by simpa using D);have v:=eL J I;have l:=Lib.hid (λW (hW:Kp w W)=>ki ((nd 0 q:Nat):Int) W (d.kp hW));rw[v] at l;have f:Hid (∀ W,Calls prog 209 #[.int .i64 (q:Int),.int .i64 2] W λe w'=>(∃ r,e=.returned r/\Ow 5 w' W.heap.size r (be 2 q))/\Kp W w'):=λW=>by
  have:=pI (q:Int) 2 W (by omega);rwa [rY (by omega),IM] at this
 have e2:((nd 0 q:Nat):Int).tdiv 2=(q:Int):=by rw[o,Jp (by omega)];omega
 have e3:IntKind.i64.wrap (q:Int)=(q:Int):=IA _ (by omega);have e4:((nd 0 q:Nat):Int)<(t.length:Int):=by omega
 have H:=Lib.hid a.2;obtain⟨ap,np,cp,rfl⟩:=br a.2.pub;obtain⟨au,nu,cu,rfl⟩:=a.2.un.sl;obtain⟨ah,nh,ch,rfl⟩:=br a.2.hash;obtain⟨cb,rfl,_⟩:=E.call;clear k Q E a o D R i u s J I v d H;simp only[bV] at n;generalize nd 0 q=X at *;generalize t.length=TL at *;generalize ats t X=m at *;go_enter func176,ntmps176;go_wp2_with fail;refine n.out.mono ?_;rintro _ w1 ⟨⟨r1,rfl,M⟩,P⟩;clear n c0 c1 c2 c3 c4;go_wp2_with fail;refine(yb r1 m9 w1 M F.out).mono ?_;rintro _ w2 ⟨⟨r2,rfl,B⟩,O⟩;have V:=Lib.hid (P.trans O);have S:=Lib.hid B.rd;obtain⟨a2,n2,b2,rfl⟩:=br B.rd;clear M P O B;go_wp2_with fail;refine(l.out _ V.out).mono ?_;rintro _ _ ⟨rfl,rfl⟩;go_wp2_with fail;refine(f.out _).mono ?_;rintro _ w3 ⟨⟨r3,rfl,A⟩,C⟩;have Y:=Lib.hid (RL.row2 w3 24 A.rd (S.out.kp C));have U:=Lib.hid (V.out.trans (C.alloc (.cells #[r3,.slice a2 n2 b2] 24)));obtain⟨a3,n3,b3,rfl⟩:=br A.rd;clear A C S f l;go_wp2_with fail;refine(rZ 1 _ _ _ Y.out (by rw[Kj,IE,bT];omega) (by have:=G.out;simp only[Kj,LJ,IE,bT,Jq];omega) (by simp)).mono ?_;rintro _ w4 ⟨⟨r4,rfl,z⟩,N⟩;have T:=Lib.hid (IC z (U.out.trans N));obtain⟨a4,n4,b4,rfl⟩:=br z.rd;clear z N Y;go_wp2_with fail;go_ret;exact⟨⟨_,rfl,T.out.1.mono U.out.size⟩,T.out.2⟩
theorem Gs (t:List Nod)(K j:Nat)(E:bq t K)(hj:j+1<=K)
  (IH:∀ (q:Nat) (w:World) (y k:Value) (g:List Int),NL w y t->Cnt w k g->Tab w->q<2 ^ (K - j)->Calls prog 176 #[y,.int .i64 ((nd j q:Nat):Int),k] w λe w'=>(∃ r,e=.returned r/\Ow 5 w' w.heap.size r (dz t g j q))/\Kp w w')
  (q:Nat) (w:World) (y k:Value) (g:List Int) (Q:NL w y t) (D:Cnt w k g) (a:Tab w) (R:q<2 ^ (K - (j+1))):
  Calls prog 176 #[y,.int .i64 ((nd (j+1) q:Nat):Int),k] w λe w'=>(∃ r,e=.returned r/\Ow 5 w' w.heap.size r (dz t g (j+1) q))/\Kp w w':=by
 obtain⟨x1,x2⟩:=E.lt hj R;obtain⟨b,af,c,p,aa,h,rfl,f⟩:=Q.node x1;obtain⟨c0,c1,c2,c3,c4⟩:=IC f.kind (IC f.name (IC f.pubC (IC f.unC f.hashC)));have B:=iU j q;have l:¬((nd (j+1) q:Nat):Int)∈g.map (2*·):=λh=>by
  obtain⟨i,_,e⟩:=Ju.1 h;omega
 have n:=yd (.agg (bV (ats t (nd (j+1) q)) p aa h).toArray) k (ats t (nd (j+1) q)) ((nd (j+1) q:Nat):Int) g w ⟨p,aa,h,rfl,f.2⟩ (E.node _) D (by omega);rw[if_neg l] at n;have v:=Lib.hid n;have s:=Lib.hid ((E.node (nd (j+1) q)).less g);have ae:=Lib.hid (oz s.out).1;obtain⟨A,z⟩:=xU hj R;obtain⟨_,y1,Z⟩:=dX E.le hj R;obtain⟨f1,f2,f3⟩:=fN (j:=j) (q:=q) y1 Z;have C:=eL y1 Z;have u:=Lib.hid (λW (d:Kp w W)=>ki ((nd (j+1) q:Nat):Int) W (a.kp d));rw[C] at u;have ai:(((j+1:Nat):Int)==0)=false:=ID.2 (by omega);have ag:¬(((j+1:Nat):Int)=0):=by omega
 have L:Hid (∀ W,Kp w W->Calls prog 177 #[.int .i64 ((nd (j+1) q:Nat):Int),.int .i64 0] W λe w'=>e=.returned (.int .i64 ((nd j (2*q):Nat):Int))/\W=w'):=λW d=>by
  have:=rU ((nd (j+1) q:Nat):Int) 0 W (a.kp d);rwa [if_neg (by decide),f2] at this
 have J:Hid (∀ W,Kp w W->Calls prog 177 #[.int .i64 ((nd (j+1) q:Nat):Int),.int .i64 1] W λe w'=>e=.returned (.int .i64 ((nd j (2*q+1):Nat):Int))/\W=w'):=λW d=>by
  have:=rU ((nd (j+1) q:Nat):Int) 1 W (a.kp d);rwa [if_pos rfl,f3] at this
 have I:=Lib.hid (λW (d:Kp w W)=>IH (2*q) W _ k g (Q.kp d) (D.kp d) (a.kp d) A);have H:=Lib.hid (λW (d:Kp w W)=>IH (2*q+1) W _ k g (Q.kp d) (D.kp d) (a.kp d) z);have G:=Lib.hid (qA t g j (2*q));have F:=Lib.hid (qA t g j (2*q+1));have HD:Hid (dz t g (j+1) q=bH ([2]++[dL (fx (ats t (nd (j+1) q)) g),aO (dz t g j (2*q)),aO (dz t g j (2*q+1))].flatten)):=by unfold Hid;simp[dz]
 rw[HD.out];have e4:((nd (j+1) q:Nat):Int)<(t.length:Int):=by omega
 obtain⟨ap,np,cp,rfl⟩:=br f.2.pub;obtain⟨au,nu,cu,rfl⟩:=f.2.un.sl;obtain⟨ah,nh,ch,rfl⟩:=br f.2.hash;obtain⟨cb,rfl,_⟩:=D.call;generalize dz t g j (2*q)=Y at *;generalize dz t g j (2*q+1)=V at *;clear E Q D f R l n B IH A z y1 Z f1 f2 f3 C a;simp only[bV] at v;generalize fx (ats t (nd (j+1) q)) g=m9 at *;generalize nd j (2*q)=XL at *;generalize nd j (2*q+1)=XR at *;generalize nd (j+1) q=X at *;generalize t.length=TL at *;generalize ats t X=m at *;generalize ((j+1:Nat):Int)=JJ at *;go_enter func176,ntmps176;go_wp2_with fail;refine v.out.mono ?_;rintro _ w1 ⟨⟨r1,rfl,o1⟩,A⟩;clear v c0 c1 c2 c3 c4;go_wp2_with fail;refine(yb r1 m9 w1 o1 s.out).mono ?_;rintro _ w2 ⟨⟨r2,rfl,o2⟩,z⟩;have U:=Lib.hid (A.trans z);have O2:=Lib.hid o2.rd;obtain⟨a2,n2,b2,rfl⟩:=br o2.rd;clear o1 A z o2;go_wp2_with fail;refine(u.out _ U.out).mono ?_;rintro _ _ ⟨rfl,rfl⟩;go_wp2_with fail;refine(L.out _ U.out).mono ?_;rintro _ _ ⟨rfl,rfl⟩;go_wp2_with fail;refine(I.out _ U.out).mono ?_;rintro _ w3 ⟨⟨r3,rfl,o3⟩,k3⟩;have K3:=Lib.hid (U.out.trans k3);have o:=Lib.hid (IC (O2.out.kp k3) o3.rd);obtain⟨a3,n3,b3,rfl⟩:=br o3.rd;clear o3 k3 O2 I L u;go_wp2_with fail;refine(J.out _ K3.out).mono ?_;rintro _ _ ⟨rfl,rfl⟩;go_wp2_with fail;refine(H.out _ K3.out).mono ?_;rintro _ w4 ⟨⟨r4,rfl,o4⟩,P⟩;have K4:=Lib.hid (K3.out.trans P);have T:=Lib.hid (IC (o.out.1.kp P) (IC (o.out.2.kp P) o4.rd));obtain⟨a4,n4,b4,rfl⟩:=br o4.rd;clear o4 P o H J;go_wp2_with fail;refine(ju _ Y w4 T.out.2.1).mono ?_;rintro _ w5 ⟨⟨r5,rfl,o5⟩,O⟩;have K5:=Lib.hid (K4.out.trans O);have S:=Lib.hid (IC (T.out.1.kp O) (IC o5.rd (T.out.2.2.kp O)));obtain⟨a5,n5,b5,rfl⟩:=br o5.rd;clear o5 O T;go_wp2_with fail;refine(ju _ V w5 S.out.2.2).mono ?_;rintro _ w6 ⟨⟨r6,rfl,o6⟩,N⟩;have HR:=Lib.hid (RL.row3 w6 24 (S.out.1.kp N) (S.out.2.1.kp N) o6.rd);obtain⟨a6,n6,b6,rfl⟩:=br o6.rd;have K6:=Lib.hid (K5.out.trans (N.alloc (.cells #[.slice a2 n2 b2,.slice a5 n5 b5,.slice a6 n6 b6] 24)));have ad:=ji (x:=Y) (by have:=G.out;omega);have ab:=ji (x:=V) (by have:=F.out;omega);have M:Hid ([dL m9,aO Y,aO V].flatten.length<=1900/\0<[dL m9,aO Y,aO V].flatten.length):=by
  have h1:=ae.out;have h2:=(oz s.out).2;have h3:=G.out;have h4:=F.out;unfold Hid;simp only[Kj,LJ,IE,Jq];omega
 clear o6 N S ad ab;go_wp2_with fail;refine(rZ 2 _ _ _ HR.out M.out.2 M.out.1 (by simp)).mono ?_;rintro _ w7 ⟨⟨r7,rfl,o7⟩,k7⟩;have KE:=Lib.hid (IC o7 (K6.out.trans k7));obtain⟨a7,n7,b7,rfl⟩:=br o7.rd;clear o7 k7 HR;go_wp2_with fail;go_ret;exact⟨⟨_,rfl,KE.out.1.mono K6.out.size⟩,KE.out.2⟩
theorem ye (t:List Nod)(K:Nat)(hT:bq t K):∀ (j q:Nat) (w:World) (vt vc:Value) (g:List Int),j<=K->NL w vt t->Cnt w vc g->Tab w->q<2 ^ (K - j) ->
  Calls prog 176 #[vt,.int .i64 ((nd j q:Nat):Int),vc] w λe w'=>(∃ r,e=.returned r/\Ow 5 w' w.heap.size r (dz t g j q))/\Kp w w'
 | 0,q,w,vt,vc,g,_,ht,hc,hTab,hq=>Gr vt vc t g K q w hT ht hc hTab (by simpa using hq)
 | j+1,q,w,vt,vc,g,hj,ht,hc,hTab,hq=>Gs t K j hT hj (λq w vt vc g ht hc hTab hq=>ye t K hT j q w vt vc g (by omega) ht hc hTab hq) q w vt vc g ht hc hTab hq
theorem Gt (vt:Value)(t:List Nod)(K j q:Nat)(a:Int)(w:World)(J:bq t K)(S:NL w vt t)(k:Tab w)(U:j+1<=K)(T:q<2 ^ (K - (j+1)))(hs:a=0\/a=1):
  Calls prog 145 #[vt,.int .i64 ((nd (j+1) q:Nat):Int),.int .i64 a] w λe w'=>(∃ r,e=.returned r/\Ow 5 w' w.heap.size r (bH ([3]++aO (ats t (nd (j+1) q)).pub++aO (ats t (nd (j+1) q)).hash++aO (dz t (ats t (nd (j+1) q)).un j (fR a q)))))/\Kp w w':=by
 obtain⟨x1,x2⟩:=J.lt U T;have ak:=Lib.hid S;obtain⟨b,aj,c,p,aa,h,rfl,n⟩:=S.node x1;obtain⟨c0,c1,c2,c3,c4⟩:=IC n.kind (IC n.name (IC n.pubC (IC n.unC n.hashC)));have d:=J.node (nd (j+1) q);obtain⟨k1,k2⟩:=xU U T;obtain⟨_,y1,y2⟩:=dX J.le U T;obtain⟨f1,f2,f3⟩:=fN (j:=j) (q:=q) y1 y2;have I:fR a q<2 ^ (K - j):=by unfold fR;split <;> assumption
 have P:Hid (∀ W,Kp w W->Calls prog 177 #[.int .i64 ((nd (j+1) q:Nat):Int),.int .i64 (1 - a)] W λe w'=>e=.returned (.int .i64 ((nd j (fR a q):Nat):Int))/\W=w'):=λW g=>by
  have:=rU ((nd (j+1) q:Nat):Int) (1 - a) W (k.kp g);rcases hs with rfl|rfl
  ·rwa [if_pos (by decide),f3] at this
  ·rwa [if_neg (by decide),f2] at this
 have O:=Lib.hid (λW vc (g:Kp w W) (hc:Cnt W vc (ats t (nd (j+1) q)).un)=>ye t K J j (fR a q) W _ vc _ (by omega) (S.kp g) hc (k.kp g) I);have Q:=Lib.hid (λW v (hv:RI W v (ats t (nd (j+1) q)).un)=>Gn v _ W hv (by have:=d.unl;omega) (λi hi=>by have:=d.un i hi;omega));have l:=Lib.hid (qA t (ats t (nd (j+1) q)).un j (fR a q));have lp:=ji (x:=(ats t (nd (j+1) q)).pub) (by have:=d.pub;omega);have lh:=ji (x:=(ats t (nd (j+1) q)).hash) (by have:=d.hash;omega);have ab:=d.pub;have ad:=d.hash;have i1:IntKind.i64.wrap (1 - a)=1 - a:=IA _ (by omega);have e4:((nd (j+1) q:Nat):Int)<(t.length:Int):=by omega
 have A:=Lib.hid n.2;obtain⟨F,B,D,rfl⟩:=br n.2.pub;obtain⟨M,H,L,rfl⟩:=n.2.un.sl;obtain⟨G,C,E,rfl⟩:=br n.2.hash;have ae:Hid ((bH ([3]++aO (ats t (nd (j+1) q)).pub++aO (ats t (nd (j+1) q)).hash++aO (dz t (ats t (nd (j+1) q)).un j (fR a q))))=bH ([3]++[aO (ats t (nd (j+1) q)).pub,aO (ats t (nd (j+1) q)).hash,aO (dz t (ats t (nd (j+1) q)).un j (fR a q))].flatten)):=by unfold Hid;simp
 rw[ae.out];generalize dz t (ats t (nd (j+1) q)).un j (fR a q)=R at *;have lr:=ji (x:=R) (by have:=l.out;omega);have ag:Hid ((aO (ats t (nd (j+1) q)).pub).length<=42/\(aO (ats t (nd (j+1) q)).hash).length<=42/\(aO R).length<=40):=⟨by omega,by omega,by have:=l.out;omega⟩;have z:0<(aO R).length:=by
  unfold aO;rw[if_pos (by unfold gR et;rw[l.out];decide)];rw[IE,l.out];omega
 have af:=Lib.hid z;clear J S k n T k1 k2 y1 y2 f1 f2 f3 U I d lp lh ab ad lr z l;generalize nd j (fR a q)=XO at *;generalize nd (j+1) q=X at *;generalize t.length=TL at *;generalize ats t X=m at *;clear hs;obtain⟨o,s⟩:∃ o,w.alloc (.cells #[.int .i64 m.kind,.int .i64 m.name,.slice F B D,.slice M H L,.slice G C E] 81)=o:=⟨_,rfl⟩;have y:Hid (Bx o w.heap.size 81 #[.int .i64 m.kind,.int .i64 m.name,.slice F B D,.slice M H L,.slice G C E]):=by rw[<-s];exact Bx.new _ _ _
 have f:Hid (Kp w o):=by rw[<-s];exact(Kp.refl _).alloc _
 have N:=Lib.hid s;clear s;go_enter func145,ntmps145;go_wp2_with fail;rw[N.out];have u:Hid (∀ W,Kp o W->W.cell? ⟨w.heap.size,2,none⟩=some (.slice F B D)/\W.cell? ⟨w.heap.size,3,none⟩=some (.slice M H L)/\W.cell? ⟨w.heap.size,4,none⟩=some (.slice G C E)):=λW g=>⟨(y.out.kp g).cell 2,(y.out.kp g).cell 3,(y.out.kp g).cell 4⟩
 have V:Hid (Kp o o.drew):=Kp.drew (Kp.refl o);have bz:=Lib.hid (u.out _ V.out);clear y N c0 c1 c2 c3 c4;go_region_held3 (λW=>W.cell? ⟨w.heap.size,2,none⟩=some (.slice F B D)/\W.cell? ⟨w.heap.size,3,none⟩=some (.slice M H L)/\W.cell? ⟨w.heap.size,4,none⟩=some (.slice G C E))
  (first|with_reducible exact bz.out|with_reducible exact S3.out|with_reducible exact S4.out)
  (first
   | (go_at_call 176;refine(O.out _ _ (f.out.trans K3.out) o3).mono ?_;rintro _ w4 ⟨⟨r4,rfl,o4⟩,k4⟩;obtain⟨a4,n4,b4,rfl⟩:=br o4.rd;have Z:=Lib.hid (K3.out.trans k4);have S4:=Lib.hid (u.out _ Z.out))
   | (go_at_call 178;refine(Q.out _ _ (A.out.un.kp (f.out.trans V.out))).mono ?_;rintro _ w3 ⟨⟨r3,rfl,o3⟩,k3⟩;obtain⟨cb,rfl,_⟩:=o3.call;have K3:=Lib.hid (V.out.trans k3);have S3:=Lib.hid (u.out _ K3.out))
   | (go_at_call 177;refine(P.out _ (f.out.trans V.out)).mono ?_;rintro _ _ ⟨rfl,rfl⟩))
 have HP:Hid (∀ W,Kp o W->Calls prog 180 #[.slice F B D] W λe w'=>(∃ r,e=.returned r/\Ow 5 w' W.heap.size r (aO m.pub))/\Kp W w'):=λW g=>ju _ m.pub W (A.out.pub.kp (f.out.trans g))
 have HH:Hid (∀ W,Kp o W->Calls prog 180 #[.slice G C E] W λe w'=>(∃ r,e=.returned r/\Ow 5 w' W.heap.size r (aO m.hash))/\Kp W w'):=λW g=>ju _ m.hash W (A.out.hash.kp (f.out.trans g))
 have O4:=Lib.hid o4.rd;have D4:Hid (Kp w4 w4.drew):=Kp.drew (Kp.refl w4);have S5:=Lib.hid (u.out _ (Z.out.trans D4.out));clear bz S3 S4 O Q P o3 o4 k3 k4 K3;go_wp2_with fail;go_region_held3 (λW=>W.cell? ⟨w.heap.size,2,none⟩=some (.slice F B D)/\W.cell? ⟨w.heap.size,3,none⟩=some (.slice M H L)/\W.cell? ⟨w.heap.size,4,none⟩=some (.slice G C E))
  (first|with_reducible exact S5.out|with_reducible exact S6.out|with_reducible exact S7.out|with_reducible exact S8.out|with_reducible exact S9.out|with_reducible exact u.out _ (Y.out.alloc _))
  (first
   | (go_at_call 179;refine(rZ 3 _ [aO m.pub,aO m.hash,aO R] _ (RL.row3 w8 24 (o6.rd.kp D8.out.1) (o7.rd.kp D8.out.2) o8.rd) (by have:=af.out;simp only[Kj,LJ,IE,Jq];omega) (by have:=ag.out;simp only[Kj,LJ,IE,Jq];omega) (by simp)).mono ?_;rintro _ w9 ⟨⟨r9,rfl,o9⟩,k9⟩;obtain⟨a9,n9,b9,rfl⟩:=br o9.rd;have K9:=Lib.hid ((Y.out.alloc _).trans k9);have S9:=Lib.hid (u.out _ K9.out))
   | (go_at_call 180;refine(ju _ R _ (O4.out.kp D7.out)).mono ?_;rintro _ w8 ⟨⟨r8,rfl,o8⟩,k8⟩;obtain⟨a8,n8,b8,rfl⟩:=br o8.rd;have Y:=Lib.hid (K7.out.trans k8);have S8:=Lib.hid (u.out _ Y.out);have D8:=Lib.hid (IC (ai.out.trans k8) k8))
   | (go_at_call 180;refine(HH.out _ K6.out).mono ?_;rintro _ w7 ⟨⟨r7,rfl,o7⟩,k7⟩;obtain⟨a7,n7,b7,rfl⟩:=br o7.rd;have K7:=Lib.hid (K6.out.trans k7);have S7:=Lib.hid (u.out _ K7.out);have D7:=Lib.hid (D6.out.trans k7);have ai:=Lib.hid k7)
   | (go_at_call 180;refine(HP.out _ (Z.out.trans D4.out)).mono ?_;rintro _ w6 ⟨⟨r6,rfl,o6⟩,k6⟩;obtain⟨a6,n6,b6,rfl⟩:=br o6.rd;have K6:=Lib.hid ((Z.out.trans D4.out).trans k6);have S6:=Lib.hid (u.out _ K6.out);have D6:=Lib.hid (D4.out.trans k6)))
 have KE:=Lib.hid (IC o9 (IC Y.out K9.out));clear S5 S6 S7 S8 S9 HP HH o6 o7 o8 o9 k9;go_wp2_with fail;go_ret;exact⟨⟨_,rfl,KE.out.1.mono (IU (f.out.trans KE.out.2.1).size (by simp))⟩,f.out.trans KE.out.2.2⟩
theorem Gu (d:Value)(t:List Nod)(K X:Nat)(a:Int)(w:World)(c:bq t K)(i:NL w d t)(b:Tab w)(n:X<t.length)(g:(ats t X).kind=2)(l:a=0\/a=1):
  Calls prog 145 #[d,.int .i64 (X:Int),.int .i64 a] w λe w'=>(∃ r,e=.returned r/\Ow 5 w' w.heap.size r (gY t (X:Int) a))/\Kp w w':=by
 have o:qB t (X:Int) a=0:=by
  unfold qB
  rw[if_pos ⟨by omega,by omega,by omega,by omega⟩,IM,if_pos g]
 have m:=c.par X g
 obtain⟨j,q,rfl,h,f⟩:=c.at n
 cases j with
 | zero=>rw[ep] at m;omega
 | succ j=>
  have e:gY t ((nd (j+1) q:Nat):Int) a=bH ([3]++aO (ats t (nd (j+1) q)).pub++aO (ats t (nd (j+1) q)).hash++aO (dz t (ats t (nd (j+1) q)).un j (fR a q))):=by
   have k:=dX c.le h f
   unfold gY
   rw[if_pos o,IM]
   unfold tH
   rw[fJ (j+1) q (by omega),kd (j+1) q (by omega),Km]
  rw[e]
  exact Gt d t K j q a w c i b h f l
section
open Go.Shelf
attribute [local go_sem] Oper.semAt_some
theorem Rd.heldL {R:Nat->Prop}{B:World}(h:Rd A v l)(f:aN R A B)(d:∀ k,leads v k->R k):Rd B v l:=by
 obtain⟨a,c,e,p,o,n,m⟩:=h;subst e;refine⟨a,c,rfl,p,o,n,λx b i g=>?_⟩;have j:=m x b i g;subst b;exact f.cell j (by rw[eN];exact d _ ⟨x,_,c,rfl,by omega,rfl⟩)
theorem Rd.leads_lt (h:Rd A v l):∀ k,leads v k->k<A.heap.size:=by
 rintro k ⟨x,n,c,e,a,rfl⟩;exact h.inside x n c e a
theorem Ow.leads_lt {e:TypeId}{B:Nat}(h:Ow e A B v l):∀ k,leads v k->B<=k/\k<A.heap.size:=by
 rintro k ⟨x,n,c,rfl,a,rfl⟩;exact Jw h _ rfl
theorem yl (Q:Nat->Prop):(∃ n,Q n)->∃ n,Q n/\∀ m,Q m->n<=m:=by
 rintro⟨n,b⟩
 induction n using Nat.strongRecOn with
 | ind n ih=>
  by_cases h:∃ m,m<n/\Q m
  ·obtain⟨m,e,d⟩:=h
   exact ih m e d
  ·exact⟨n,b,λm c=>Mg λa=>h ⟨m,a,c⟩⟩
open Classical in
noncomputable def nE (Q:Nat->Prop):Nat:=if h:∃ n,Q n then Classical.choose (yl Q h) else 0
theorem ym {Q:Nat->Prop}(h:∃ n,Q n):Q (nE Q)/\∀ m,Q m->nE Q<=m:=by
 unfold nE;rw[dif_pos h];exact Classical.choose_spec (yl Q h)
theorem GP (v:Value)(l:List UInt8)(w:World)(b:Rd w v l):
  Calls prog 98 #[v] w λe w'=>e=.returned (.func (.func 133) #[] #[.pointer (some ⟨w.heap.size,0,none⟩)])/\w.alloc (.cells #[v] 24)=w':=by
 obtain⟨a,n,c,rfl⟩:=aA b;clear b;go_enter func98,ntmps98;go_wp2_with fail;go_ret;exact⟨rfl,rfl⟩
theorem GQ (v:Value)(s:List UInt8)(N b:Nat)(w:World)(M:Rd w v s)(hs:s.length=32)(H:w.cell? ⟨b,0,none⟩=some v):
  yk prog 133 #[.pointer (some ⟨b,0,none⟩)] (λi aa Y A=>Rd A aa (aV s i)/\∀ k,leads aa k->Y k\/leads v k) N (λk=>k=b\/leads v k) w:=by
 intro l J Jx W f al ak hJ am r hY h0;have ab:0<N:=Nat.pos_of_ne_zero (λe=>by subst e;exact r _ _ h0);have F:=f.cell H (.inl rfl);have C:Rd W v s:=M.heldL f (λk h=>.inr h);have HJ:=Lib.hid hJ;have HY:=Lib.hid hY;have ae:=Lib.hid r;have af:=Lib.hid f;have HV:=Lib.hid M;have HD:=Lib.hid (λW (aa:Value) i (hu:Rd W aa (aV s i))=>xK aa ⟨#[112,97,116,104]⟩ (aV s i) W hu (by decide) (by rw[iq hs i];omega));have HS:Hid (∀ i,bQ (aV s i) (⟨#[112,97,116,104]⟩:ByteArray).data.toList=aV s (i+1)):=λi=>rfl
 obtain⟨a0,n0,c0,rfl⟩:=aA M;generalize Z:Value.slice a0 n0 c0=v at *;obtain⟨RL,I⟩:∃ RL:Nat->Value->World->Prop,(fun(i:Nat) (p:Value) (wr:World)=>∃ Y:Nat->Prop,Rd wr p (aV s i)/\(∀ k,leads p k->Y k\/leads v k)/\wr.cell? ⟨b,0,none⟩=some v/\aN (λk=>k=b\/leads v k) w wr/\J i Y wr/\(∀ j,Y j->W.heap.size<=j/\j<wr.heap.size)/\W.heap.size<=wr.heap.size)=RL:=⟨_,rfl⟩;have t:Hid (∀ i p wr,RL i p wr↔∃ Y:Nat->Prop,Rd wr p (aV s i)/\(∀ k,leads p k->Y k\/leads v k)/\wr.cell? ⟨b,0,none⟩=some v/\aN (λk=>k=b\/leads v k) w wr/\J i Y wr/\(∀ j,Y j->W.heap.size<=j/\j<wr.heap.size)/\W.heap.size<=wr.heap.size):=λi p wr=>by rw[<-I]
 have g:Hid (RL 0 v W):=(t.out _ _ _).2 ⟨_,C,λk c=>.inr c,F,f,h0,λ_ h=>h.elim,IB _⟩;clear I hJ hY r H M f h0 C hs;subst Z;refine(callsIn_wide (n:=5)).1 ?_;refine callsIn_of_wp func133 rfl trivial ?_ rfl;simp only[ntmps133,JE,JV,JF,Jf,Jq,Nat.reduceAdd,Nat.reduceSub,JB,JC,JM,Js,JG];gi_wp2
 gi_loopw [3] (λp wr=>∃ i:Nat,i<N/\RL i p wr) (λp wr=>nE λd=>∃ i:Nat,i<N/\d=N - i/\RL i p wr)
 case atStart=>exact⟨0,ab,g.out⟩
 case round=>
  clear F;obtain⟨i,X,hm,hr⟩:∃ i,i<N/\(nE λd=>∃ i:Nat,i<N/\d=N - i/\RL i u3 wr)=N - i/\RL i u3 wr:=by
   obtain⟨i0,h1,h2⟩:=hrel;obtain⟨⟨i,h3,h4,h5⟩,_⟩:=ym (Q:=λd=>∃ i:Nat,i<N/\d=N - i/\RL i u3 wr) ⟨_,i0,h1,rfl,h2⟩;exact⟨i,h3,h4,h5⟩
  have HM:=Lib.hid hm;obtain⟨Y,K,U,H,f,V,m,D⟩:=(t.out _ _ _).1 hr;obtain⟨a3,n3,c3,rfl⟩:=aA K;obtain⟨fn,tmps,O,ag,hy,hR⟩:=HY.out i Y wr _ 4 X V m f ⟨K,U⟩;have ah:prog.follows .mixedOrders=true:=by kernel_rfl
  have ai:prog.follows .lateStores=true:=by kernel_rfl
  clear hrel hm hr;gi_wp2
  have RD:=Lib.hid K;have x:=Lib.hid (IC H (IC f (IC m (IC D U))));have an:=Lib.hid V;clear H f m D U V K;refine hR.mono ?_;rintro e w2 ⟨a,(⟨rfl,E⟩|⟨rfl,T⟩)⟩
  ·have G:=a.cell x.out.1 (.inr (.inl rfl))
   have y:Rd w2 (.slice a3 n3 c3) (aV s i):=RD.out.heldL a λk c=>(x.out.2.2.2.2 k c).imp id .inr
   have B:aN (λk=>k=b\/leads (.slice a0 n0 c0) k) w w2:=x.out.2.1.trans (a.mono λ_ h=>.inr h);have HX:=Lib.hid (IC G (IC B (IC E a.size)));have ad:=Lib.hid y;clear hy hR G B E a y;gi_wp2_with (refine⟨trivial,?_⟩;gi_at_call 104;refine(callsIn_wide.2 (HD.out w2 _ i ad.out)).mono ?_;rintro e P ⟨⟨v3,rfl,u⟩,z⟩;rw[HS.out] at u;obtain⟨a9,S,c9,rfl⟩:=aA u.rd)
   obtain⟨q1,q2,R,L⟩:=HX.out;obtain⟨_,_,aW,p4,p5⟩:=x.out;have q:i+1<N:=by
    rcases Jc (Nat.succ_le_of_lt X) with h|h
    ·exact h
    ·rw[show i+1=N from h] at R
     exact absurd R (ae.out _ _)
   have o:RL (i+1) (.slice a9 S c9) P:=(t.out _ _ _).2 ⟨λk=>(Y k/\¬leads (.slice a3 n3 c3) k)\/leads (.slice a9 S c9) k,u.rd,λk c=>.inl (.inr c),z.cell q1,q2.trans (aN.of_kp z),
    HJ.out (i+1) _ _ w2 P R (λk c=>⟨(aW k c.1).1,II (aW k c.1).2 L⟩) (aj.of_kp z) (λk c=>c.imp id λh=>u.leads_lt k h),
    λk c=>c.elim (λh=>⟨(aW k h.1).1,II (aW k h.1).2 (IU L z.size)⟩) (λh=>⟨IU (IU p4 L) (u.leads_lt k h).1,(u.leads_lt k h).2⟩),IU p4 (IU L z.size)⟩
   refine⟨⟨i+1,q,o⟩,?_⟩;rw[HM.out];have:=(ym (Q:=λd=>∃ i:Nat,i<N/\d=N - i/\RL i (.slice a9 S c9) P) ⟨_,i+1,q,rfl,o⟩).2 _ ⟨i+1,q,rfl,o⟩;omega
  ·clear hy hR
   gi_wp2
   refine bodyPost_end (results_none rfl _ _ _) rfl ?_;exact⟨⟨_,rfl⟩,_,λj h=>⟨(x.out.2.2.1 j h.1).1,II (x.out.2.2.1 j h.1).2 a.size⟩,.inr ⟨i,X,T⟩⟩

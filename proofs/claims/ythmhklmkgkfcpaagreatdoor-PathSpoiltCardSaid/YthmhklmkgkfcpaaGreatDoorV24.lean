import Derived.Test.YthmhklmkgkfcpaaGreatDoorV23
set_option linter.all false
set_option maxHeartbeats 8000000
set_option maxRecDepth 100000
namespace Go.Proofs.YthmhklmkgkfcpaaGreatDoor
open Go.Proofs.Tryz Go.RowKit
variable {c:Nat}{w:World}
theorem Rd.bytesIn {a:Option Addr}{l:List UInt8}(h:Rd w (.slice a l.length c) l):Lib.BytesIn w a l.length (l.map λb=>(b.toNat:Int)):=λj=>by
 obtain⟨b,d,e,_,g⟩:=h.at 0 j;refine⟨b,d,e,λi f=>?_⟩;rw[g i f,Iw,Iy f,Iw,Jt,Iy f];rfl
theorem xN (l:List UInt8):Lib.bytesOf (l.map λb=>(b.toNat:Int))=l:=by
 unfold Lib.bytesOf;rw[List.map_map];conv=>rhs;rw[<-List.map_id l]
 refine LL λb _=>?_
 simp
theorem ln (u v:Value)(l m:List UInt8)(w:World)(c:Rd w u l)(a:Rd w v m):
  Calls prog 52 #[u,v] w λe w'=>e=.returned (.bool (decide (l=m)))/\Kp w w':=by
 obtain⟨h,f,rfl,p1,j⟩:=c.shape;obtain⟨g,d,rfl,p2,i⟩:=a.shape;refine(bytes_Equal_all h g l.length f m.length d (l.map λb=>(b.toNat:Int)) (m.map λb=>(b.toNat:Int)) w (Jl ..) (Jl ..) c.bytesIn a.bytesIn).mono ?_;rintro e w' ⟨rfl,rfl⟩;rw[xN,xN];refine⟨?_,Kp.refl _⟩;by_cases e:l=m
 ·rw[IY e,e];simp
 ·rw[IS e];simp[e]
theorem FF (v:Value)(l:List Int)(w:World)(h:RI w v l)(t:l.length<=1000000):
  Calls prog 174 #[v] w λe w'=>∃ u,e=.returned u/\OI 3 w' w.heap.size u l/\Kp w w':=by
 have S:=fV
 have q:∀ (w:World) (a:Option Addr) (n c n' g:Nat),(binOp .eql 34 (.slice a n c) (.slice none n' g)).run prog w=.ok (.bool a.isNone) w:=λw a n c n' g=>Lib.run_eql_slice_nil w _ _ a n c n' g underlying34
 have p:=h
 obtain⟨a,c,rfl,x,s⟩:=h.shape
 cases a with
 | none=>
  have f:l=[]:=by
   by_cases o:0<l.length
   ·obtain⟨b,i,e,_⟩:=h.at 0 o
    cases e
   ·exact IX (by omega)
  subst f
  go_enter func174,ntmps174
  go_wp2_with fail
  go_ret
  exact⟨_,rfl,OI.nil _ _ _,Kp.refl _⟩
 | some a=>
  go_enter func174,ntmps174
  go_wp2_with(at_builtin;refine ga S rfl _ _ rfl w.heap.size _ [] rfl (RI.lit w _ #[] [] 0 rfl (by omega) rfl) _ l rfl (p.kp ((Kp.refl _).alloc _)) ?c1 ?c2 ?_;rotate_right;intro r w2 d m)
  case c1=>simp;omega
  case c2=>simp
  go_ret
  exact⟨_,rfl,by simpa using d,Kp.grown (v:=.slice (some ⟨w.heap.size,0,none⟩) 0 0) ((Kp.refl _).alloc _) m (by intro k j;simp[Value.ownBlock] at j;omega)⟩
theorem NL.flat9 {b d n:Nat}{t:List Nod}(h:NL w (.slice (some ⟨b,d,none⟩) n c) t)(F:0<t.length):
  ∃ us:List Value,us.length=t.length*5/\(∀ z∈us,z.oneCell'=true)/\(∀ j z,us[j]?=some z->w.cell? ⟨b,d+j,none⟩=some z) /\
   ∀ i,i<t.length->∃ p u h,(∀ f,f<5->us[i*5+f]?=(bV (ats t i) p u h)[f]?)/\NIn w (ats t i) p u h:=by
 have E:n=t.length:=by
  obtain⟨I,G,e,_⟩:=h.shape;simp only[IG] at e;exact e.2.1
 obtain⟨H,m,o,_,q⟩:=h.at 0 (by omega);simp only[Jo,JY,and_true] at o;obtain⟨rfl,rfl⟩:=o;have a:∀ x:Value,aR (.slice none 0 0) x:=λx g r=>by cases r
 obtain⟨us,B,A,y,s⟩:=NAp.flat (v:=.slice none 0 0) (t:=t) (λi k=>by
  obtain⟨p,u,h,l⟩:=q i (by omega);exact⟨p,u,h,l,a _,a _,a _⟩)
 refine⟨us,B,A,y,λi k=>?_⟩;obtain⟨p,u,h,D,C,_⟩:=s i k;exact⟨p,u,h,D,C⟩
theorem xO (v:Value)(t:List Nod)(w:World)(g:NL w v t)(C:0<t.length)(A:t.length<=1000000):
  Calls prog 105 #[v] w λe w'=>(∃ l us,e=.returned l/\w'.ownsRow w.heap.size 81 5 l t.length us/\(∀ z∈us,z.oneCell'=true) /\
   ∀ i,i<t.length->∃ p u h,(∀ f,f<5->us[i*5+f]?=(bV (ats t i) p u h)[f]?)/\NIn w (ats t i) p u h)/\Kp w w':=by
 have S:=uV;obtain⟨G,O,B,x,s,r,o⟩:=S.hi;have q:∀ (w:World) (a:Option Addr) (n c n' D:Nat),(binOp .eql 22 (.slice a n c) (.slice none n' D)).run prog w=.ok (.bool a.isNone) w:=λw a n c n' D=>Lib.run_eql_slice_nil w _ _ a n c n' D underlying22
 obtain⟨a,c,rfl,Y,H⟩:=g.shape;obtain⟨b,m,rfl,_,_⟩:=g.at 0 C;obtain⟨us,L,K,J,I⟩:=g.flat9 C;have W:=Lib.hid J;have V:=Lib.hid I;have M:=Lib.hid K;have d:=Lib.hid (IC A (Kc A r));generalize t.length=N at *;have Z:=Lib.hid H;have X:=Lib.hid L;clear g I J A K C H L;go_enter func105,ntmps105;go_wp2_with(at_builtin;refine wpList_append_own_at _ rfl _ _ 22 rfl w.heap.size 81 G O 5 G.bytes S.ht B x s rfl o (by decide) _ 0 [] rfl (World.ownsRow_made w #[] 0 (IB _) (IO _) (by simp)) ⟨b,m,none⟩ N c us rfl X.out (λj y R=>by rw[Addr.add_mid];exact((Kp.refl w).alloc _).cell (W.out j y R)) M.out (by have:=d.out.1;unfold maxLen;omega) (by have:=d.out.2;rw[JA];omega) (by simp) ?_;intro l w' F E _ P)
 have T:=Lib.hid (Kp.grown (w0:=w) (v:=.slice (some ⟨w.heap.size,0,none⟩) 0 0) ((Kp.refl _).alloc _) E (by intro k Q;simp[Value.ownBlock] at Q;omega));have U:=Lib.hid F;clear F E P;go_ret;exact⟨⟨_,us,rfl,by simpa using U.out,M.out,V.out⟩,T.out⟩
def lq (seed info half b:List UInt8):List UInt8 × Int:=
 if half.length≠32 then ([],5) else if unE seed half info b≠0 then ([],unE seed half info b) else if (unR seed half info b).length≠32 then ([],2) else (unR seed half info b,0)
theorem FG (aa v x y:Value)(seed info half b:List UInt8)(w:World)(E:Rd w aa seed)(D:Rd w v info)(C:Rd w x half)(B:Rd w y b)(F:info.length<=1400)(G:b.length<=1600):
  Calls prog 120 #[aa,v,.agg #[x,y]] w λe w'=>(∃ r,e=.returned (.tuple #[r,.int .i64 (lq seed info half b).2])/\Rd w' r (lq seed info half b).1)/\Kp w w':=by
 have k:=Lib.hid (λW (o:Kp w W)=>FD aa x v y seed half info b W (E.kp o) (C.kp o) (D.kp o) (B.kp o) F G);have z:Hid (lq seed info half b=if half.length≠32 then ([],5) else if unE seed half info b≠0 then ([],unE seed half info b) else if (unR seed half info b).length≠32 then ([],2) else (unR seed half info b,0)):=rfl;generalize lq seed info half b=a at *;generalize unE seed half info b=p at *;generalize unR seed half info b=g at *;obtain⟨au,U,Z,rfl⟩:=aA E;obtain⟨av,T,Y,rfl⟩:=aA D;obtain⟨Q,N,rfl,_,_⟩:=C.shape;obtain⟨P,L,M,rfl⟩:=aA B;clear E D C B;by_cases i:half.length=32
 ·have f:Hid (a=if p≠0 then ([],p) else if g.length≠32 then ([],2) else (g,0)):=by have:=z.out;rwa [if_neg (by simpa using i)] at this
  rw[i] at k ⊢;clear z i;go_enter func120,ntmps120;go_wp2_with fail;obtain⟨u,l⟩:∃ u,w.alloc (.cells #[.slice Q 32 N,.slice P L M] 92)=u:=⟨_,rfl⟩;have K:Hid (Kp w u):=by unfold Hid;rw[<-l];exact(Kp.refl _).alloc _
  rw[l];clear l;refine(k.out u K.out).mono ?_;rintro _ w2 ⟨⟨q,rfl,A⟩,I⟩;obtain⟨R,O,rfl,X,V⟩:=A.shape;have S:=Lib.hid A;have H:=Lib.hid (K.out.trans I);clear A I k;by_cases m:p=0
  ·subst m
   have j:Hid (a=if g.length≠32 then ([],2) else (g,0)):=by have:=f.out;rwa [if_neg (by simp)] at this
   clear f;by_cases h:g.length=32
   ·have d:Hid (a=(g,0)):=by have:=j.out;rwa [if_neg (by simpa using h)] at this
    have s:(g.length:Int)=32:=by omega
    have c:Hid ((∃ r,Ending.returned (.tuple #[Value.slice R g.length O,.int .i64 0])=.returned (.tuple #[r,.int .i64 a.2])/\Rd w2 r a.1)/\Kp w w2):=by rw[d.out];exact⟨⟨_,rfl,S.out⟩,H.out⟩
    have n:((g.length:Int)==32)=true:=by rw[s];rfl
    have J:((g.length:Int) != 32)=false:=by rw[s];rfl
    clear j d h;go_wp2_with fail;go_ret2;exact c.out
   ·have d:Hid (a=([],2)):=by have:=j.out;rwa [if_pos h] at this
    have c:Hid ((∃ r,Ending.returned (.tuple #[Value.slice none 0 0,.int .i64 2])=.returned (.tuple #[r,.int .i64 a.2])/\Rd w2 r a.1)/\Kp w w2):=by rw[d.out];exact⟨⟨_,rfl,cQ _⟩,H.out⟩
    have n:((g.length:Int)==32)=false:=ID.2 (by omega);have t:¬(g.length:Int)=32:=by omega
    clear j d;go_wp2_with fail;go_ret2;exact c.out
  ·have d:Hid (a=([],p)):=by have:=f.out;rwa [if_pos m] at this
   have c:Hid ((∃ r,Ending.returned (.tuple #[Value.slice none 0 0,.int .i64 p])=.returned (.tuple #[r,.int .i64 a.2])/\Rd w2 r a.1)/\Kp w w2):=by rw[d.out];exact⟨⟨_,rfl,cQ _⟩,H.out⟩
   have n:(p==0)=false:=ID.2 m;clear f d;go_wp2_with fail;go_ret2;exact c.out
 ·have f:Hid (a=([],5)):=by have:=z.out;rwa [if_pos i] at this
  have n:((half.length:Int)==32)=false:=ID.2 (by omega);have t:¬(half.length:Int)=32:=by omega
  have c:Hid (∀ W,Kp w W->(∃ r,Ending.returned (.tuple #[Value.slice none 0 0,.int .i64 5])=.returned (.tuple #[r,.int .i64 a.2])/\Rd W r a.1)/\Kp w W):=λW o=>by rw[f.out];exact⟨⟨_,rfl,cQ _⟩,o⟩
  clear z k f;go_enter func120,ntmps120;go_wp2_with fail;go_ret2;exact c.out _ ((Kp.refl _).alloc _)
def pE (l:List Int)(x:Int)(r:Int):Prop:=(∃ k:Nat,r=(k:Int)/\k<l.length/\l.getD k 0=x)\/(r = -1/\x∉l)
theorem FH (aa:Value)(l:List Int)(x:Int)(w:World)(u:RI w aa l):
  Calls prog 132 #[aa,.int .i64 x] w λe w'=>(∃ r,e=.returned (.int .i64 r)/\pE l x r)/\w=w':=by
 obtain⟨a,c,rfl,p1,E⟩:=u.shape;unfold maxLen at E;have D:=Lib.hid u;have q:Hid (∀ k:Nat,k<l.length->l.getD k 0=x->pE l x (k:Int)):=λk o e=>.inl ⟨k,rfl,o,e⟩
 have s:Hid ((∀ k,k<l.length->l.getD k 0≠x)->pE l x (-1)):=λh=>.inr ⟨rfl,λI=>by
  obtain⟨k,o,e⟩:=Jr I;exact h k o (by rw[Iw,Iy o];exact e)⟩
 generalize pE l x=L at *;obtain⟨N,B⟩:∃ N,l.length=N:=⟨_,rfl⟩;rw[B] at D q s p1 ⊢;clear u B;go_enter func132,ntmps132;go_wp2_with fail;go_loop [8] (λi=>∃ k:Nat,k<=N/\i=.int .i64 (k:Int)/\(∀ j,j<k->l.getD j 0≠x)) (λi=>(N - (intOf i).toNat))
 case atStart=>exact⟨0,IO _,rfl,λt h=>by omega⟩
 case round=>
  obtain⟨k,o,rfl,d⟩:=hrel;by_cases f:k<N
  ·obtain⟨b,F,rfl,_,v⟩:=D.out.at k f
   have C:=v k f;have m:=Lib.hid (q.out k f);have n:=Lib.hid d;have H:IntKind.i64.wrap ((k:Int)+1)=(k:Int)+1:=IA _ (by omega);have G:(k:Int)<(N:Int):=by omega
   by_cases g:l.getD k 0=x
   ·have z:=Lib.hid (m.out g)
    have p:(x==l.getD k 0)=true:=by rw[g];exact beq_self_eq_true _
    rw[g] at C;clear v m n q s d g p;go_wp2_with fail;go_ret;exact⟨⟨_,rfl,z.out⟩,rfl⟩
   ·have K:Hid (∀ j,j<k+1->l.getD j 0≠x):=λj J=>by
     rcases Jc (Jn.1 J) with y|y
     ·exact n.out j y
     ·rw[y];exact g
    obtain⟨X,A⟩:∃ X,l.getD k 0=X:=⟨_,rfl⟩;rw[A] at C g;have p:(x==X)=false:=ID.2 λe=>g e.symm
    clear v m n q s d A;go_wp2_with fail;go_round
    case rel=>exact⟨k+1,by omega,by first|rfl|(rw[H];rfl),K.out⟩
    case measure=>simp[intOf];omega
  ·obtain rfl:k=N:=by omega
   have z:=Lib.hid (s.out d);have G:¬(k:Int)<(k:Int):=by omega
   clear s d q;go_wp2_with fail;go_ret;exact⟨⟨_,rfl,z.out⟩,rfl⟩
theorem FJ (aa:Value)(l:List Int)(x:Int)(w:World)(b:RI w aa l):
  Calls prog 94 #[aa,.int .i64 x] w λe w'=>e=.returned (.bool (decide (x∈l)))/\w=w':=by
 have f:=Lib.hid (FH aa l x w b);obtain⟨a,n,c,rfl⟩:=b.sl;clear b;go_enter func94,ntmps94;go_wp2_with fail;refine f.out.mono ?_;rintro _ _ ⟨⟨r,rfl,d⟩,rfl⟩;have g:Hid (decide (0<=r)=decide (x∈l)):=by
  rcases d with⟨k,rfl,hk,e⟩|⟨rfl,hn⟩
  ·have:x∈l:=by
    rw[Iw,Iy hk] at e;exact(show l[k]=x from e)▸Jg hk
   exact(IY (show 0<=(k:Int) by omega)).trans (IY this).symm
  ·exact(show decide (0<=(-1:Int))=false from rfl).trans (IS hn).symm
 clear d f;go_wp2_with fail;go_ret;exact⟨by rw[<-g.out] <;> first|rfl|simp,rfl⟩
theorem FM (aa:Value)(seed:List UInt8)(n:Nod)(p q h:Value)(w:World)(m:Rd w aa seed)(d:NIn w n p q h):
  Calls prog 46 #[aa,.agg #[.int .i64 n.kind,.int .i64 n.name,p,q,h]] w λe w'=>aL e (fj seed=0/\dE seed=n.pub)/\Kp w w':=by
 have L:=Lib.hid (λW (o:Kp w W)=>pD aa seed W (m.kp o));have b:=Lib.hid (λW (o:Kp w W) (v:Value) (l:List UInt8) (O:Rd W v l)=>ln v p l n.pub W O (d.pub.kp o));generalize fj seed=t at *;generalize dE seed=R at *;obtain⟨au,X,Z,rfl⟩:=aA m;obtain⟨H,z,E,rfl⟩:=aA d.pub;obtain⟨G,y,D,rfl⟩:=d.un.sl;obtain⟨F,x,C,rfl⟩:=aA d.hash;obtain⟨J,g⟩:∃ k,n.kind=k:=⟨_,rfl⟩;obtain⟨I,f⟩:∃ k,n.name=k:=⟨_,rfl⟩;rw[g,f];generalize n.pub=S at *;clear m d g f;go_enter func46,ntmps46;go_wp2_with fail;obtain⟨c,a⟩:∃ c,w.alloc (.cells #[.int .i64 J,.int .i64 I,.slice H z E,.slice G y D,.slice F x C] 81)=c:=⟨_,rfl⟩;have M:Hid (Bx c w.heap.size 81 #[.int .i64 J,.int .i64 I,.slice H z E,.slice G y D,.slice F x C]):=by unfold Hid;rw[<-a];exact Bx.new w _ _
 have K:Hid (Kp w c):=by unfold Hid;rw[<-a];exact(Kp.refl _).alloc _
 rw[a];clear a;refine(L.out c K.out).mono ?_;rintro _ w2 ⟨⟨r,rfl,i,N⟩,j⟩;obtain⟨a9,Y,c9,rfl⟩:=aA i;have Q:=Lib.hid i;have u:=Lib.hid (K.out.trans j);have B:=(M.out.kp j).cell 2;simp only[IJ,IF,IK] at B;clear i N j L M;by_cases s:t=0
 ·subst s
  go_wp2_with fail;refine(b.out w2 u.out _ _ Q.out).mono ?_;rintro _ V ⟨rfl,A⟩;have T:=Lib.hid (u.out.trans A);clear A B b;go_wp2_with fail;go_ret;exact⟨⟨_,rfl,by simp⟩,T.out⟩
 ·have P:(t==0)=false:=ID.2 s
  have U:Hid (¬(t=0/\R=S)):=λh=>s h.1
  clear b;go_wp2_with fail;go_ret;exact⟨aL.no U.out,u.out⟩
theorem FO (n:Nod)(x:Int)(p q h:Value)(w:World)(c:NIn w n p q h):
  Calls prog 47 #[.agg #[.int .i64 n.kind,.int .i64 n.name,p,q,h],.int .i64 x] w λe w'=>aL e (n.kind≠0/\x∉n.un)/\Kp w w':=by
 have C:=Lib.hid (λW (E:Kp w W)=>FJ q n.un x W (c.un.kp E));obtain⟨u,j,r,rfl⟩:=aA c.pub;obtain⟨t,i,o,rfl⟩:=c.un.sl;obtain⟨s,g,m,rfl⟩:=aA c.hash;obtain⟨v,d⟩:∃ k,n.name=k:=⟨_,rfl⟩;obtain⟨b,l⟩:∃ b,decide (x∈n.un)=b:=⟨_,rfl⟩;have F:Hid (b=true↔x∈n.un):=by unfold Hid;rw[<-l,decide_eq_true_iff]
 rw[l] at C;rw[d];generalize n.kind=a at *;generalize n.un=A at *;clear c d l;go_enter func47,ntmps47;have G:Hid (Bx (w.alloc (.cells #[.int .i64 a,.int .i64 v,.slice u j r,.slice t i o,.slice s g m] 81)) w.heap.size 81 #[.int .i64 a,.int .i64 v,.slice u j r,.slice t i o,.slice s g m]):=Bx.new w _ _;by_cases f:a=0
 ·subst f
  have y:Hid (¬((0:Int)≠0/\x∉A)):=λh=>h.1 rfl
  go_wp2_with fail;go_ret;exact⟨aL.no y.out,(Kp.refl _).alloc _⟩
 ·have D:(a==0)=false:=ID.2 f
  have z:(a != 0)=true:=Ki.2 f;have B:Hid (Kp w (w.alloc (.cells #[.int .i64 a,.int .i64 v,.slice u j r,.slice t i o,.slice s g m] 81))):=(Kp.refl _).alloc _;go_wp2_with fail;refine(C.out _ B.out).mono ?_;rintro _ _ ⟨rfl,rfl⟩;have y:Hid ((!b)=true↔a≠0/\x∉A):=by
   unfold Hid;rw[<-not_congr F.out];cases b <;> simp[f]
  go_wp2_with fail;go_ret;exact⟨⟨_,rfl,y.out⟩,B.out⟩
theorem yf (u:Value)(t:List Nod)(w:World)(hu:NL w u t)(h0:0<t.length)(hl:t.length<=100000)(hb:∀ i,i<t.length->(ats t i).pub.length<=1000/\(ats t i).un.length<=100000/\(ats t i).hash.length<=1000):
  Calls prog 141 #[u] w λe w'=>(∃ v P U H,e=.returned v/\NX 81 3 w' w.heap.size v t P U H (λ_=>True))/\Kp w w':=by
 have HC:=Lib.hid (xO u t w hu h0 (by omega));have am:=Lib.hid (fun(v:Value) (l:List UInt8) (W:World) (h:Rd W v l) (hl:l.length<=1000)=>qL v l W h (by omega));have au:=Lib.hid (fun(v:Value) (l:List Int) (W:World) (h:RI W v l) (hl:l.length<=100000)=>FF v l W h (by omega));have HU:=Lib.hid hu;obtain⟨a,c,rfl,p1,s1⟩:=hu.shape;have HB:=Lib.hid hb;have aq:=Lib.hid (λi s=>Fg t i s);obtain⟨N,hN⟩:∃ N,t.length=N:=⟨_,rfl⟩;have B:=Lib.hid hN;rw[hN] at HC HU HB h0 hl p1 ⊢;have aw:(N:Int)<=100000:=by omega
 have az:=Lib.hid (IC p1 s1);clear hu hb hN hl p1 s1;go_enter func141,ntmps141;go_wp2_with fail;refine HC.out.mono ?_;rintro _ w1 ⟨⟨v1,us,rfl,r1,r2,r3⟩,k1⟩;obtain⟨P,U,H,r4⟩:=Ff (R:=λi p u h=>(∀ f,f<5->us[i*5+f]?=(bV (ats t i) p u h)[f]?)/\NIn w (ats t i) p u h) r3;obtain⟨g,S,rfl,D,ae⟩:∃ g S,v1=.slice (some ⟨g,0,none⟩) N S/\w.heap.size<=g/\g<w1.heap.size/\N<=S:=by
  rcases id r1.2 with⟨_,e⟩|⟨g,cap,cur,e,e1,e2,e3,_⟩
  ·omega
  ·exact⟨g,cap,e,e1,(Iz.1 e2).1,e3⟩
 have Q:Hid (∃ P U H,NX 81 3 w1 w.heap.size (.slice (some ⟨g,0,none⟩) N S) t P U H (λj=>j<0)):=by
  refine⟨P,U,H,⟨us,by rw[B.out];exact r1,r2,λi s=>?_⟩,λi s=>?_,λi s=>?_,λi s hs=>absurd hs (Kd _),λi s hs=>absurd hs (Kd _),λi j s hj hs=>absurd hs (Kd _)⟩
  ·rw[B.out] at s;exact(r4 i s).1
  ·rw[B.out] at s;exact(r4 i s).2.kp k1
  ·rw[B.out] at s
   have h4:=(r4 i s).2;exact⟨h4.pub.apart (λg' E=>by cases E;exact D),h4.un.apart (λg' E=>by cases E;exact D),h4.hash.apart (λg' E=>by cases E;exact D)⟩
 have ar:=Lib.hid k1;have HG:=Lib.hid (IC D ae.1);have ay:=ae.2;clear r1 r2 r3 r4 k1 HC D ae P U H us;go_wp2_with fail;go_loopw[10] (λx wr=>∃ k:Nat,k<=N/\x=.int .i64 (k:Int)/\(∃ P U H,NX 81 3 wr w.heap.size (.slice (some ⟨g,0,none⟩) N S) t P U H (λj=>j<k))/\Kp w wr/\g<wr.heap.size) (λx _=>(N - (intOf x).toNat))
 case atStart=>exact⟨0,IO _,rfl,Q.out,ar.out,HG.out.2⟩
 case round=>
  obtain⟨k,hk,rfl,⟨P,U,H,hx⟩,C,ad⟩:=hrel;by_cases m:k<N
  ·obtain⟨b,av,rfl,_,ah⟩:=HU.out.at k m
   obtain⟨p,q,h,hn⟩:=ah k m;have d:=hn.kp C;have d0:=d.kind;have d1:=d.name;have d2:=d.pubC;have d3:=d.unC;have d4:=d.hashC;obtain⟨b1,b2,b3⟩:=HB.out k m;have af:=Lib.hid hn.2;have ag:=Lib.hid (IC b1 (IC b2 b3));obtain⟨xp,np,M,rfl⟩:=aA d.2.pub;obtain⟨xq,nq,L,rfl⟩:=d.2.un.sl;obtain⟨xh,nh,O,rfl⟩:=aA d.2.hash;have HX:=Lib.hid hx;have n:=Lib.hid (IC C ad);have i1:IntKind.i64.wrap ((k:Int)+1)=(k:Int)+1:=IA _ (by omega);have i2:(k:Int)<(N:Int):=by omega
   clear ah hn d hx C ad b1 b2 b3;go_wp2_with fail;refine(am.out (.slice xp np M) _ _ (af.out.pub.kp (n.out.1.alloc _)) ag.out.1).mono ?_;rintro _ w3 ⟨p',rfl,o3,k3⟩;have J:Hid (∃ P U H,NX 81 3 (w3.setCells g (k*5+2) [p']) w.heap.size (.slice (some ⟨g,0,none⟩) N S) t P U H (λj=>j<k)):=⟨_,_,_,
    HX.out.clonePub (((Kp.refl wr).alloc _).trans k3) (by rw[B.out];exact m) (Nat.lt_irrefl k) o3 (by simp) n.out.2⟩
   have V:Hid (w3.there g (k*5+2) 1):=(HX.out.kp (((Kp.refl wr).alloc _).trans k3)).there k (by rw[B.out];exact m) 2 (by omega);have y:=(Bx.new wr 81 #[.int .i64 (ats t k).kind,.int .i64 (ats t k).name,.slice xp np M,.slice xq nq L,.slice xh nh O]).kp k3;have r:Hid (Bx (w3.setCells g (k*5+2) [p']) wr.heap.size 81 #[.int .i64 (ats t k).kind,.int .i64 (ats t k).name,.slice xp np M,.slice xq nq L,.slice xh nh O]):=y.grown (fP w3 g 0 _ _) (λe=>by have:=n.out.2;simp at e;omega);have o:Hid (Kp w (w3.setCells g (k*5+2) [p'])):=(n.out.1.trans (((Kp.refl wr).alloc _).trans k3)).setCells HG.out.1 _ _;have G:Hid (wr.heap.size<(w3.setCells g (k*5+2) [p']).heap.size):=II (Iz.1 y).1 (fP w3 g 0 _ _).size;obtain⟨yp,mp,ao,rfl⟩:=aA o3.rd;clear o3 k3 y;go_wp2_with(refine ng rfl rfl 24 (.tmp 21) (.tmp 19) rfl g (k*5+2) (.slice yp mp ao) rfl rfl rfl V.out wW ?_;intro W4 ak;rw[<-ak] at J r o G;have c3:=r.out.cell 3;have c4:=r.out.cell 4;clear ak)
   refine(au.out (.slice xq nq L) _ W4 (af.out.un.kp o.out) ag.out.2.1).mono ?_;rintro _ w5 ⟨u',rfl,o5,k5⟩;obtain⟨P1,U1,H1,ab⟩:=J.out;have A:g<W4.heap.size:=Nat.lt_trans n.out.2 G.out;have I:Hid (∃ P U H,NX 81 3 (w5.setCells g (k*5+3) [u']) w.heap.size (.slice (some ⟨g,0,none⟩) N S) t P U H (λj=>j<k+1)):=⟨_,_,_,ab.cloneUn k5 (by rw[B.out];exact m) (λj hj ax=>by omega) o5 (IB _) A o.out.size⟩;have T:Hid (w5.there g (k*5+3) 1):=(ab.kp k5).there k (by rw[B.out];exact m) 3 (by omega);have y:=r.out.kp k5;have K:Hid (Bx (w5.setCells g (k*5+3) [u']) wr.heap.size 81 #[.int .i64 (ats t k).kind,.int .i64 (ats t k).name,.slice xp np M,.slice xq nq L,.slice xh nh O]):=y.grown (fP w5 g 0 _ _) (λe=>by have:=n.out.2;simp at e;omega);have z:Hid (Kp w (w5.setCells g (k*5+3) [u'])):=(o.out.trans k5).setCells HG.out.1 _ _;have F:Hid (wr.heap.size<(w5.setCells g (k*5+3) [u']).heap.size):=II (Iz.1 y).1 (fP w5 g 0 _ _).size;obtain⟨yq,mq,an,rfl⟩:=o5.ri.sl;clear o5 k5 y ab A J r o G V c3 c4;go_wp2_with(refine ng rfl rfl 34 (.tmp 28) (.tmp 26) rfl g (k*5+3) (.slice yq mq an) rfl rfl rfl T.out wX ?_;intro W6 aj;rw[<-aj] at I K z F;have c4:=K.out.cell 4;clear aj)
   refine(am.out (.slice xh nh O) _ W6 (af.out.hash.kp z.out) ag.out.2.2).mono ?_;rintro _ w7 ⟨h',rfl,o7,k7⟩;obtain⟨P2,U2,H2,aa⟩:=I.out;have A:g<W6.heap.size:=Nat.lt_trans n.out.2 F.out;have Y:Hid (∃ P U H,NX 81 3 (w7.setCells g (k*5+4) [h']) w.heap.size (.slice (some ⟨g,0,none⟩) N S) t P U H (λj=>j<k+1)):=⟨_,_,_,aa.cloneHash k7 (by rw[B.out];exact m) o7 (IB _) A⟩;have al:Hid (w7.there g (k*5+4) 1):=(aa.kp k7).there k (by rw[B.out];exact m) 4 (by omega);have Z:Hid (Kp w (w7.setCells g (k*5+4) [h'])):=(z.out.trans k7).setCells HG.out.1 _ _;have X:Hid (g<(w7.setCells g (k*5+4) [h']).heap.size):=II A (IU k7.size (fP w7 g 0 _ _).size);obtain⟨yh,mh,ap,rfl⟩:=aA o7.rd;clear o7 k7 aa A I K z F T c4;go_wp2_with(refine ng rfl rfl 24 (.tmp 35) (.tmp 33) rfl g (k*5+4) (.slice yh mh ap) rfl rfl rfl al.out wW ?_;intro W8 ai;rw[<-ai] at Y Z X;clear ai)
   go_roundw
   case rel=>exact⟨k+1,by omega,by go_num,Y.out,Z.out,X.out⟩
   case measure=>simp[intOf];omega
  ·obtain rfl:k=N:=by omega
   have HX:=Lib.hid hx;have n:=Lib.hid C;have i2:¬(k:Int)<(k:Int):=by omega
   have aB:=Lib.hid B.out;clear hx C ad;go_wp2_with fail;go_ret;exact⟨⟨_,rfl,P,U,H,HX.out.weak (λi s _=>by rw[B.out] at s;exact s)⟩,n.out⟩
theorem Ic (x y I r:Value)(a b:Se)(w:World)(M:Rd w x a.half)(L:Rd w y a.b)(K:Rd w I b.half)(J:Rd w r b.b):
  Calls prog 97 #[.agg #[x,y],.agg #[I,r]] w λe w'=>aL e (a=b)/\Kp w w':=by
 have l:=Lib.hid (λW (n:Kp w W)=>ln x I a.half b.half W (M.kp n) (K.kp n));have O:Hid (∀ W,Kp w W->Calls prog 52 #[y,r] W λe w'=>aL e (a.b=b.b)/\Kp W w'):=λW n=>(ln y r a.b b.b W (L.kp n) (J.kp n)).mono λe w' h=>⟨⟨_,h.1,decide_eq_true_iff⟩,h.2⟩
 have i:Hid (a.half≠b.half->¬a=b):=λh e=>h (by rw[e])
 have g:Hid (¬a.b=b.b->¬a=b):=λh e=>h (by rw[e])
 have N:Hid (a.half=b.half->a.b=b.b->a=b):=Se.ext';obtain⟨G,v,C,rfl⟩:=aA M;obtain⟨E,t,A,rfl⟩:=aA K;obtain⟨F,u,B,rfl⟩:=aA L;obtain⟨D,s,z,rfl⟩:=aA J;generalize (a=b)=P at *;generalize (a.b=b.b)=P2 at *;generalize a.half=X at *;generalize b.half=V at *;clear M L K J;by_cases q:X=V
 ·rw[IY q] at l
  have p:=Lib.hid (N.out q);clear i N q;go_enter func97,ntmps97;go_wp2_with fail;obtain⟨d,c⟩:∃ d,(w.alloc (.cells #[.slice G v C,.slice F u B] 92)).alloc (.cells #[.slice E t A,.slice D s z] 92)=d:=⟨_,rfl⟩;have k:Bx d w.heap.size 92 #[.slice G v C,.slice F u B]:=by rw[<-c];exact(Bx.new w _ _).kp ((Kp.refl _).alloc _)
  have m:Bx d (w.heap.size+1) 92 #[.slice E t A,.slice D s z]:=by
   rw[<-c];have:=Bx.new (w.alloc (.cells #[.slice G v C,.slice F u B] 92)) 92 #[.slice E t A,.slice D s z];rwa [IQ] at this
  have o:Hid (Kp w d):=by unfold Hid;rw[<-c];exact((Kp.refl _).alloc _).alloc _
  have j:=Lib.hid (IC k m);rw[c];clear k m c;refine(l.out d o.out).mono ?_;rintro _ w2 ⟨rfl,f⟩;have H:=Lib.hid (o.out.trans f);have S:=(j.out.1.kp f).cell 1;have R:=(j.out.2.kp f).cell 1;simp only[IJ,IF,IK] at S R;clear f l j;go_wp2_with fail;refine(O.out w2 H.out).mono ?_;rintro _ w3 ⟨⟨T,rfl,k⟩,Q⟩;have HB:Hid (T=true↔P):=⟨λh=>p.out (k.1 h),λh=>k.2 (JN.1 λU=>g.out U h)⟩;have Y:=Lib.hid (H.out.trans Q);clear k Q p g S R O;go_wp2_with fail;go_ret;exact⟨⟨T,rfl,HB.out⟩,Y.out⟩
 ·rw[IS q] at l
  have Z:=Lib.hid (i.out q);clear i g N O q;go_enter func97,ntmps97;go_wp2_with fail;obtain⟨d,c⟩:∃ d,(w.alloc (.cells #[.slice G v C,.slice F u B] 92)).alloc (.cells #[.slice E t A,.slice D s z] 92)=d:=⟨_,rfl⟩;have o:Hid (Kp w d):=by unfold Hid;rw[<-c];exact((Kp.refl _).alloc _).alloc _
  rw[c];clear c;refine(l.out d o.out).mono ?_;rintro _ w2 ⟨rfl,f⟩;have H:=Lib.hid (o.out.trans f);clear f l;go_wp2_with fail;go_ret;exact⟨aL.no Z.out,H.out⟩
theorem Id (aa v:Value)(t s:List Se)(w:World)(D:EL w aa t)(C:EL w v s):
  Calls prog 96 #[aa,v,.func (.func 97) #[] #[]] w λe w'=>aL e (t=s)/\Kp w w':=by
 obtain⟨a1,c1,rfl,p1,B⟩:=SE.shape D;obtain⟨a2,c2,rfl,p2,A⟩:=SE.shape C;unfold maxLen at B A;by_cases a:t.length=s.length
 ·have l:Hid (∀ k,k<t.length->¬aM t k=aM s k->¬t=s):=λk hk m h=>m (by rw[h])
  have d:Hid ((∀ k,k<t.length->aM t k=aM s k)->t=s):=λh=>GY a h
  have X:=Lib.hid D;have S:=Lib.hid C;rw[<-a] at S p2 ⊢;obtain⟨N,G⟩:∃ N,t.length=N:=⟨_,rfl⟩;have H:=Lib.hid G;have z:Hid (s.length=N):=a.symm.trans G;rw[G] at X S p1 p2 l d ⊢;generalize (t=s)=EQ at *;have HS:=Lib.hid (IC B A);clear D C a G B A;go_enter func96,ntmps96;go_wp2_with fail;go_loopw[17] (λi wr=>∃ k:Nat,k<=N/\i=.int .i64 (k:Int)/\(∀ j,j<k->aM t j=aM s j)/\Kp w wr) (λi _=>(N - (intOf i).toNat))
  case atStart=>exact⟨0,IO _,rfl,λt h=>by omega,Kp.refl _⟩
  case round=>
   obtain⟨k,hk,rfl,c,b⟩:=hrel;by_cases n:k<N
   ·obtain⟨g1,o1,d1,x1,y1,J,_,q⟩:=EL.nodeK (i:=k) X.out (by rw[H.out];exact n)
    obtain⟨g2,o2,d2,x2,y2,I,_,o⟩:=EL.nodeK (i:=k) S.out (by rw[z.out];exact n);rw[H.out] at J;rw[z.out] at I;simp only[IG] at J I;obtain⟨rfl,_,rfl⟩:=J;obtain⟨rfl,_,rfl⟩:=I;obtain⟨y,x,O,M⟩:=q wr b;obtain⟨Z,na,ca,rfl⟩:=aA O;obtain⟨Y,nb,cb,rfl⟩:=aA M;obtain⟨_,_,L,K⟩:=o wr b;obtain⟨xc,nc,cc,rfl⟩:=aA L;obtain⟨xd,ab,cd,rfl⟩:=aA K;obtain⟨u,r,_,_⟩:=o (wr.alloc (.cells #[.slice Z na ca,.slice Y nb cb] 92)) (b.alloc _);have T:=Lib.hid (λW (F:Kp wr W)=>Ic _ _ _ _ (aM t k) (aM s k) W (O.kp F) (M.kp F) (L.kp F) (K.kp F));have g:=l.out k n;have f:Hid (aM t k=aM s k->∀ j,j<k+1->aM t j=aM s j):=λhe j hj=>by
     rcases Jc (Jn.1 hj) with Q|Q
     ·exact c j Q
     ·rw[Q];exact he
    have i1:IntKind.i64.wrap ((k:Int)+1)=(k:Int)+1:=IA _ (by have:=HS.out;omega);have i2:(k:Int)<(N:Int):=by omega
    have R:=Lib.hid b;clear q o d l c b O M L K;generalize (aM t k=aM s k)=PE at *;go_wp2_with fail;refine(T.out _ (((Kp.refl _).alloc _).alloc _)).mono ?_;rintro _ w9 ⟨⟨bb,rfl,E⟩,P⟩;have V:=Lib.hid (R.out.trans ((((Kp.refl _).alloc _).alloc _).trans P));cases bb
    ·have p:=Lib.hid (g λh=>by cases E.2 h)
     clear f g E P T y x u r;go_wp2_with fail;go_ret;exact⟨aL.no p.out,V.out⟩
    ·have p:=Lib.hid (f.out (E.1 rfl))
     clear f g E P T y x u r;go_wp2_with fail;go_roundw
     case rel=>exact⟨k+1,by omega,by first|rfl|(rw[i1];rfl),p.out,V.out⟩
     case measure=>simp[intOf];omega
   ·obtain rfl:k=N:=by omega
    have HB:=Lib.hid (d.out c);have R:=Lib.hid b;have i2:¬(k:Int)<(k:Int):=by omega
    clear d l c b;go_wp2_with fail;go_ret;exact⟨aL.yes HB.out,R.out⟩
 ·have m:¬(t.length:Int)=(s.length:Int):=by omega
  have U:((t.length:Int) != (s.length:Int))=true:=Ki.2 m;have H:Hid (¬t=s):=λh=>a (by rw[h])
  clear D C a B A;go_enter func96,ntmps96;go_wp2_with fail;go_ret;exact⟨aL.no H.out,Kp.refl _⟩
theorem Ie (x y I r:Value)(a b:St)(w:World)(M:Rd w x a.pub)(L:EL w y a.fors)(K:Rd w I b.pub)(J:EL w r b.fors):
  Calls prog 54 #[.agg #[x,y],.agg #[I,r]] w λe w'=>aL e (a=b)/\Kp w w':=by
 have l:=Lib.hid (λW (n:Kp w W)=>ln x I a.pub b.pub W (M.kp n) (K.kp n));have O:Hid (∀ W,Kp w W->Calls prog 96 #[y,r,.func (.func 97) #[] #[]] W λe w'=>aL e (a.fors=b.fors)/\Kp W w'):=λW n=>Id y r a.fors b.fors W (aH.kp L n) (aH.kp J n)
 have i:Hid (a.pub≠b.pub->¬a=b):=λh e=>h (by rw[e])
 have g:Hid (¬a.fors=b.fors->¬a=b):=λh e=>h (by rw[e])
 have N:Hid (a.pub=b.pub->a.fors=b.fors->a=b):=St.ext';obtain⟨G,v,C,rfl⟩:=aA M;obtain⟨E,t,A,rfl⟩:=aA K;obtain⟨F,u,B,rfl⟩:=SE.sl L;obtain⟨D,s,z,rfl⟩:=SE.sl J;generalize (a=b)=P at *;generalize (a.fors=b.fors)=P2 at *;generalize a.pub=X at *;generalize b.pub=V at *;clear M L K J;by_cases q:X=V
 ·rw[IY q] at l
  have p:=Lib.hid (N.out q);clear i N q;go_enter func54,ntmps54;go_wp2_with fail;obtain⟨d,c⟩:∃ d,(w.alloc (.cells #[.slice G v C,.slice F u B] 74)).alloc (.cells #[.slice E t A,.slice D s z] 74)=d:=⟨_,rfl⟩;have k:Bx d w.heap.size 74 #[.slice G v C,.slice F u B]:=by rw[<-c];exact(Bx.new w _ _).kp ((Kp.refl _).alloc _)
  have m:Bx d (w.heap.size+1) 74 #[.slice E t A,.slice D s z]:=by
   rw[<-c];have:=Bx.new (w.alloc (.cells #[.slice G v C,.slice F u B] 74)) 74 #[.slice E t A,.slice D s z];rwa [IQ] at this
  have o:Hid (Kp w d):=by unfold Hid;rw[<-c];exact((Kp.refl _).alloc _).alloc _
  have j:=Lib.hid (IC k m);rw[c];clear k m c;refine(l.out d o.out).mono ?_;rintro _ w2 ⟨rfl,f⟩;have H:=Lib.hid (o.out.trans f);have S:=(j.out.1.kp f).cell 1;have R:=(j.out.2.kp f).cell 1;simp only[IJ,IF,IK] at S R;clear f l j;go_wp2_with fail;refine(O.out w2 H.out).mono ?_;rintro _ w3 ⟨⟨T,rfl,k⟩,Q⟩;have HB:Hid (T=true↔P):=⟨λh=>p.out (k.1 h),λh=>k.2 (JN.1 λU=>g.out U h)⟩;have Y:=Lib.hid (H.out.trans Q);clear k Q p g S R O;go_wp2_with fail;go_ret;exact⟨⟨T,rfl,HB.out⟩,Y.out⟩
 ·rw[IS q] at l
  have Z:=Lib.hid (i.out q);clear i g N O q;go_enter func54,ntmps54;go_wp2_with fail;obtain⟨d,c⟩:∃ d,(w.alloc (.cells #[.slice G v C,.slice F u B] 74)).alloc (.cells #[.slice E t A,.slice D s z] 74)=d:=⟨_,rfl⟩;have o:Hid (Kp w d):=by unfold Hid;rw[<-c];exact((Kp.refl _).alloc _).alloc _
  rw[c];clear c;refine(l.out d o.out).mono ?_;rintro _ w2 ⟨rfl,f⟩;have H:=Lib.hid (o.out.trans f);clear f l;go_wp2_with fail;go_ret;exact⟨aL.no Z.out,H.out⟩
theorem If (aa v:Value)(t s:List St)(w:World)(D:eG w aa t)(C:eG w v s):
  Calls prog 53 #[aa,v,.func (.func 54) #[] #[]] w λe w'=>aL e (t=s)/\Kp w w':=by
 obtain⟨a1,c1,rfl,p1,B⟩:=SE.shape D;obtain⟨a2,c2,rfl,p2,A⟩:=SE.shape C;unfold maxLen at B A;by_cases a:t.length=s.length
 ·have l:Hid (∀ k,k<t.length->¬am t k=am s k->¬t=s):=λk hk m h=>m (by rw[h])
  have d:Hid ((∀ k,k<t.length->am t k=am s k)->t=s):=λh=>GX a h
  have X:=Lib.hid D;have S:=Lib.hid C;rw[<-a] at S p2 ⊢;obtain⟨N,G⟩:∃ N,t.length=N:=⟨_,rfl⟩;have H:=Lib.hid G;have z:Hid (s.length=N):=a.symm.trans G;rw[G] at X S p1 p2 l d ⊢;generalize (t=s)=EQ at *;have HS:=Lib.hid (IC B A);clear D C a G B A;go_enter func53,ntmps53;go_wp2_with fail;go_loopw[17] (λi wr=>∃ k:Nat,k<=N/\i=.int .i64 (k:Int)/\(∀ j,j<k->am t j=am s j)/\Kp w wr) (λi _=>(N - (intOf i).toNat))
  case atStart=>exact⟨0,IO _,rfl,λt h=>by omega,Kp.refl _⟩
  case round=>
   obtain⟨k,hk,rfl,c,b⟩:=hrel;by_cases n:k<N
   ·obtain⟨g1,o1,d1,x1,y1,J,_,q⟩:=eG.nodeK (i:=k) X.out (by rw[H.out];exact n)
    obtain⟨g2,o2,d2,x2,y2,I,_,o⟩:=eG.nodeK (i:=k) S.out (by rw[z.out];exact n);rw[H.out] at J;rw[z.out] at I;simp only[IG] at J I;obtain⟨rfl,_,rfl⟩:=J;obtain⟨rfl,_,rfl⟩:=I;obtain⟨y,x,O,M⟩:=q wr b;obtain⟨Z,na,ca,rfl⟩:=aA O;obtain⟨Y,nb,cb,rfl⟩:=SE.sl M;obtain⟨_,_,L,K⟩:=o wr b;obtain⟨xc,nc,cc,rfl⟩:=aA L;obtain⟨xd,ab,cd,rfl⟩:=SE.sl K;obtain⟨u,r,_,_⟩:=o (wr.alloc (.cells #[.slice Z na ca,.slice Y nb cb] 74)) (b.alloc _);have T:=Lib.hid (λW (F:Kp wr W)=>Ie _ _ _ _ (am t k) (am s k) W (O.kp F) (aH.kp M F) (L.kp F) (aH.kp K F));have g:=l.out k n;have f:Hid (am t k=am s k->∀ j,j<k+1->am t j=am s j):=λhe j hj=>by
     rcases Jc (Jn.1 hj) with Q|Q
     ·exact c j Q
     ·rw[Q];exact he
    have i1:IntKind.i64.wrap ((k:Int)+1)=(k:Int)+1:=IA _ (by have:=HS.out;omega);have i2:(k:Int)<(N:Int):=by omega
    have R:=Lib.hid b;clear q o d l c b O M L K;generalize (am t k=am s k)=PE at *;go_wp2_with fail;refine(T.out _ (((Kp.refl _).alloc _).alloc _)).mono ?_;rintro _ w9 ⟨⟨bb,rfl,E⟩,P⟩;have V:=Lib.hid (R.out.trans ((((Kp.refl _).alloc _).alloc _).trans P));cases bb
    ·have p:=Lib.hid (g λh=>by cases E.2 h)
     clear f g E P T y x u r;go_wp2_with fail;go_ret;exact⟨aL.no p.out,V.out⟩
    ·have p:=Lib.hid (f.out (E.1 rfl))
     clear f g E P T y x u r;go_wp2_with fail;go_roundw
     case rel=>exact⟨k+1,by omega,by first|rfl|(rw[i1];rfl),p.out,V.out⟩
     case measure=>simp[intOf];omega
   ·obtain rfl:k=N:=by omega
    have HB:=Lib.hid (d.out c);have R:=Lib.hid b;have i2:¬(k:Int)<(k:Int):=by omega
    clear d l c b;go_wp2_with fail;go_ret;exact⟨aL.yes HB.out,R.out⟩
 ·have m:¬(t.length:Int)=(s.length:Int):=by omega
  have U:((t.length:Int) != (s.length:Int))=true:=Ki.2 m;have H:Hid (¬t=s):=λh=>a (by rw[h])
  clear D C a B A;go_enter func53,ntmps53;go_wp2_with fail;go_ret;exact⟨aL.no H.out,Kp.refl _⟩
theorem Ig (x y I r:Value)(a b:Pa)(w:World)(M:Rd w x a.pub)(L:eG w y a.step)(K:Rd w I b.pub)(J:eG w r b.step):
  Calls prog 18 #[.agg #[x,y],.agg #[I,r]] w λe w'=>aL e (a=b)/\Kp w w':=by
 have l:=Lib.hid (λW (n:Kp w W)=>ln x I a.pub b.pub W (M.kp n) (K.kp n));have O:Hid (∀ W,Kp w W->Calls prog 53 #[y,r,.func (.func 54) #[] #[]] W λe w'=>aL e (a.step=b.step)/\Kp W w'):=λW n=>If y r a.step b.step W (aH.kp L n) (aH.kp J n)
 have i:Hid (a.pub≠b.pub->¬a=b):=λh e=>h (by rw[e])
 have g:Hid (¬a.step=b.step->¬a=b):=λh e=>h (by rw[e])
 have N:Hid (a.pub=b.pub->a.step=b.step->a=b):=Pa.ext';obtain⟨G,v,C,rfl⟩:=aA M;obtain⟨E,t,A,rfl⟩:=aA K;obtain⟨F,u,B,rfl⟩:=SE.sl L;obtain⟨D,s,z,rfl⟩:=SE.sl J;generalize (a=b)=P at *;generalize (a.step=b.step)=P2 at *;generalize a.pub=X at *;generalize b.pub=V at *;clear M L K J;by_cases q:X=V
 ·rw[IY q] at l
  have p:=Lib.hid (N.out q);clear i N q;go_enter func18,ntmps18;go_wp2_with fail;obtain⟨d,c⟩:∃ d,(w.alloc (.cells #[.slice G v C,.slice F u B] 27)).alloc (.cells #[.slice E t A,.slice D s z] 27)=d:=⟨_,rfl⟩;have k:Bx d w.heap.size 27 #[.slice G v C,.slice F u B]:=by rw[<-c];exact(Bx.new w _ _).kp ((Kp.refl _).alloc _)
  have m:Bx d (w.heap.size+1) 27 #[.slice E t A,.slice D s z]:=by
   rw[<-c];have:=Bx.new (w.alloc (.cells #[.slice G v C,.slice F u B] 27)) 27 #[.slice E t A,.slice D s z];rwa [IQ] at this
  have o:Hid (Kp w d):=by unfold Hid;rw[<-c];exact((Kp.refl _).alloc _).alloc _
  have j:=Lib.hid (IC k m);rw[c];clear k m c;refine(l.out d o.out).mono ?_;rintro _ w2 ⟨rfl,f⟩;have H:=Lib.hid (o.out.trans f);have S:=(j.out.1.kp f).cell 1;have R:=(j.out.2.kp f).cell 1;simp only[IJ,IF,IK] at S R;clear f l j;go_wp2_with fail;refine(O.out w2 H.out).mono ?_;rintro _ w3 ⟨⟨T,rfl,k⟩,Q⟩;have HB:Hid (T=true↔P):=⟨λh=>p.out (k.1 h),λh=>k.2 (JN.1 λU=>g.out U h)⟩;have Y:=Lib.hid (H.out.trans Q);clear k Q p g S R O;go_wp2_with fail;go_ret;exact⟨⟨T,rfl,HB.out⟩,Y.out⟩
 ·rw[IS q] at l
  have Z:=Lib.hid (i.out q);clear i g N O q;go_enter func18,ntmps18;go_wp2_with fail;obtain⟨d,c⟩:∃ d,(w.alloc (.cells #[.slice G v C,.slice F u B] 27)).alloc (.cells #[.slice E t A,.slice D s z] 27)=d:=⟨_,rfl⟩;have o:Hid (Kp w d):=by unfold Hid;rw[<-c];exact((Kp.refl _).alloc _).alloc _
  rw[c];clear c;refine(l.out d o.out).mono ?_;rintro _ w2 ⟨rfl,f⟩;have H:=Lib.hid (o.out.trans f);clear f l;go_wp2_with fail;go_ret;exact⟨aL.no Z.out,H.out⟩
theorem yA (x y b a:Value)(p q:Pa)(w:World)(d:PIn w x y p)(c:PIn w b a q):
 Calls prog 18 #[.agg #[x,y],.agg #[b,a]] w λe w'=>aL e (p=q)/\Kp w w':=Ig x y b a p q w d.pub d.step c.pub c.step

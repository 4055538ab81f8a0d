import Derived.Test.YthmhklmkgkfcpaaGreatDoorX18
set_option linter.all false
set_option maxHeartbeats 8000000
set_option maxRecDepth 100000
namespace Go.Proofs.YthmhklmkgkfcpaaGreatDoor
open Go.Proofs.Tryz Go.RowKit
variable {k:Nat}
def jW (own:List Sd):Prop:=own.length<=20/\∀ k,k<own.length->(aG own k).seed.length<=40
def ia (p:Pa):Prop:=p.pub.length<=40/\p.step.length<=10/\∀ k,k<p.step.length->(am p.step k).pub.length<=40/\(am p.step k).fors.length<=20/\∀ j,j<(am p.step k).fors.length->(aH (am p.step k).fors j).half.length<=40/\(aH (am p.step k).fors j).b.length<=100
theorem Iq (aa:Value)(own:List Sd)(w:World)(u:SL w aa own):Calls prog 11 #[aa] w λe w'=>aK e (jW own)/\w=w':=by
 obtain⟨a,c,rfl,p1,K⟩:=u.shape;have D:=JE u;have f:Hid (20<own.length->¬jW own):=λh p=>by have:=p.1;omega
 have g:Hid (∀ k,k<own.length->40<(aG own k).seed.length->¬jW own):=λk B h p=>by have:=p.2 k B;omega
 have d:Hid (own.length<=20->(∀ k,k<own.length->(aG own k).seed.length<=40)->jW own):=λI p=>⟨I,p⟩
 generalize jW own=P at *;obtain⟨N,v⟩:∃ N,own.length=N:=⟨_,rfl⟩;have E:=JE v;rw[v] at p1 D f g d ⊢;clear u v;by_cases y:20<N
 ·have s:=JE (f.out y)
  have o:(20:Int)<(N:Int):=by omega
  clear f g d;go_enter func11,ntmps11;go_wp2_with fail;go_ret;exact⟨Oi s.out,rfl⟩
 ·have o:¬(20:Int)<(N:Int):=by omega
  go_enter func11,ntmps11;go_wp2_with fail;go_loop [3] (λi=>∃ k:Nat,k<=N/\i=.int .i64 (k:Int)/\(∀ j,j<k->(aG own j).seed.length<=40)) (λi=>(N - (intOf i).toNat))
  case atStart=>exact⟨0,JW _,rfl,λt h=>by omega⟩
  case round=>
   obtain⟨k,B,rfl,l⟩:=hrel;have r:=JE l;clear l;by_cases n:k<N
   ·obtain⟨b,F,S,q,e,Q,U,T,A⟩:=SL.node (i:=k) D.out (by rw[E.out];exact n)
    rw[E.out] at e;simp only[JR] at e;obtain⟨rfl,_,rfl⟩:=e;have O:IntKind.i64.wrap ((k:Int)+1)=(k:Int)+1:=JI _ (by omega);have M:(k:Int)<(N:Int):=by omega
    have m:=JE (g.out k n);obtain⟨V,R,rfl,_,_⟩:=A.shape;generalize C:(aG own k).seed.length=L at *;have z:=JE C;clear C A;by_cases x:40<L
    ·have s:=JE (m.out x)
     have H:(40:Int)<(L:Int):=by omega
     clear f g d m;go_wp2_with fail;go_ret;exact⟨Oi s.out,rfl⟩
    ·have H:¬(40:Int)<(L:Int):=by omega
     have J:Hid (∀ j,j<k+1->(aG own j).seed.length<=40):=λj G=>by
      rcases Kh (Kr.1 G) with o|o
      ·exact r.out j o
      ·rw[o,z.out];omega
     clear f g d m;go_wp2_with fail;go_round
     case rel=>exact⟨k+1,by omega,by go_num,J.out⟩
     case measure=>simp[intOf];omega
   ·obtain rfl:k=N:=by omega
    have s:=JE (d.out (by omega) r.out);clear f g d;go_wp2_with fail;go_ret;exact⟨aK.yes s.out,rfl⟩
theorem Ir {a b:List Sd}(f:a.length=b.length)(h:∀ k,k<a.length->(aG a k).node=(aG b k).node/\(aG a k).seed=(aG b k).seed):a=b:=by
 refine ML f λk c g=>?_
 obtain⟨e,d⟩:=h k c;rw[eV c,eV g] at e d;exact Sd.ext' e d
theorem Is (aa v:Value)(l m:List Sd)(w:World)(hu:SL w aa l)(Z:SL w v m):Calls prog 67 #[aa,v] w λe w'=>aK e (l=m)/\Kp w w':=by
 have HU:=JE hu;have HV:=JE Z;obtain⟨a,c,rfl,p1,s1⟩:=hu.shape;obtain⟨a',c',rfl,p2,s2⟩:=Z.shape;have d:Hid (l.length≠m.length->¬l=m):=λh e=>h (by rw[e])
 have n:Hid (∀ k,k<l.length->((aG l k).node≠(aG m k).node\/(aG l k).seed≠(aG m k).seed)->¬l=m):=λk hk h e=>by subst e;rcases h with h|h <;> exact h rfl
 have f:Hid (l.length=m.length->(∀ k,k<l.length->(aG l k).node=(aG m k).node/\(aG l k).seed=(aG m k).seed)->l=m):=λh1 h2=>Ir h1 h2
 generalize (l=m)=P at *;obtain⟨N,hN⟩:∃ N,l.length=N:=⟨_,rfl⟩;obtain⟨M,hM⟩:∃ N,m.length=N:=⟨_,rfl⟩;have HN:=JE hN;have HM:=JE hM;rw[hN] at HU p1 d n f ⊢;rw[hM] at HV p2 d f ⊢;unfold maxLen at s1;clear hu Z hN hM;by_cases O:N=M
 ·subst O
  have A:=JE (f.out rfl);clear d f;go_enter func67,ntmps67;go_wp2_with fail;go_loopw[5] (λi wr=>∃ k:Nat,k<=N/\i=.int .i64 (k:Int)/\(∀ t,t<k->(aG l t).node=(aG m t).node/\(aG l t).seed=(aG m t).seed)/\Kp w wr) (λi _=>(N - (intOf i).toNat))
  case atStart=>exact⟨0,JW _,rfl,λt h=>by omega,NQ _⟩
  case round=>
   obtain⟨k,hk,rfl,p,K⟩:=hrel;have u:=JE p;have G:=JE K;clear p K;by_cases s:k<N
   ·obtain⟨F,C,x1,q1,e1,_,n1⟩:=SL.nodeK (i:=k) HU.out (by rw[HN.out];exact s)
    obtain⟨E,B,x2,q2,e2,_,n2⟩:=SL.nodeK (i:=k) HV.out (by rw[HM.out];exact s);rw[HN.out] at e1;rw[HM.out] at e2;simp only[JR] at e1 e2;obtain⟨rfl,_,rfl⟩:=e1;obtain⟨rfl,_,rfl⟩:=e2;have i1:IntKind.i64.wrap ((k:Int)+1)=(k:Int)+1:=JI _ (by omega);have i2:(k:Int)<(N:Int):=by omega
    obtain⟨c1,c2,r⟩:=n1 wr G.out;obtain⟨d1,d2,q⟩:=n2 wr G.out;have V:=JE (n.out k s);have j:Hid ((aG l k).node=(aG m k).node->(aG l k).seed=(aG m k).seed->∀ t,t<k+1->(aG l t).node=(aG m t).node/\(aG l t).seed=(aG m t).seed):=λh1 h2 t ht=>by
     rcases Kh (Kr.1 ht) with h3|h3
     ·exact u.out t h3
     ·rw[h3];exact⟨h1,h2⟩
    have o:=JE (λW (L:Kp wr W)=>fM q1 q2 _ _ W (r.kp L) (q.kp L));have HC:Hid (∀ W,Kp wr W->W.cell? ⟨F,C+k*2+1,none⟩=some q1/\W.cell? ⟨E,B+k*2+1,none⟩=some q2):=λW L=>⟨L.cell c2,L.cell d2⟩
    obtain⟨U,I,R,rfl⟩:=aA r;obtain⟨T,H,Q,rfl⟩:=aA q;clear n1 n2 r q A n u;generalize (aG l k).seed=bM at *;generalize (aG m k).seed=S2 at *;generalize (aG l k).node=X at *;generalize (aG m k).node=Y at *;by_cases g:X=Y
    ·have x:=JE (j.out g)
     have y:=JE (λh=>V.out (.inr h));subst g;clear j V;by_cases D:bM=S2
     ·have HP:=JE (x.out D)
      rw[Ke D] at o;clear x y D;go_wp2_with fail;go_region_held3 (λW=>W.cell? ⟨F,C+k*2,none⟩=some (.int .i64 X)/\W.cell? ⟨E,B+k*2,none⟩=some (.int .i64 X)/\W.cell? ⟨F,C+k*2+1,none⟩=some (.slice U I R)/\W.cell? ⟨E,B+k*2+1,none⟩=some (.slice T H Q))
       (first|exact⟨c1,d1,c2,d2⟩)
       (first|(go_at_call 29;refine(o.out _ (by first|exact NQ _|exact(NQ _).drew)).mono ?_;rintro _ w9 ⟨rfl,rfl⟩))
      go_wp2_with fail;go_roundw
      case rel=>exact⟨k+1,by omega,by go_num,HP.out,G.out.drew⟩
      case measure=>simp[intOf];omega
     ·have z:=JE (y.out D)
      rw[Kb D] at o;clear x y D;go_wp2_with fail;go_region_held3 (λW=>W.cell? ⟨F,C+k*2,none⟩=some (.int .i64 X)/\W.cell? ⟨E,B+k*2,none⟩=some (.int .i64 X)/\W.cell? ⟨F,C+k*2+1,none⟩=some (.slice U I R)/\W.cell? ⟨E,B+k*2+1,none⟩=some (.slice T H Q))
       (first|exact⟨c1,d1,c2,d2⟩)
       (first|(go_at_call 29;refine(o.out _ (by first|exact NQ _|exact(NQ _).drew)).mono ?_;rintro _ w9 ⟨rfl,rfl⟩))
      go_wp2_with fail;go_ret;exact⟨Oi z.out,G.out.drew⟩
    ·have z:=JE (V.out (.inl g))
     have J:(X==Y)=false:=JL.2 g;have ae:(X != Y)=true:=Lt.2 g;clear j V;go_wp2_with fail;refine wp_region_held_drew (S:=λW=>W.cell? ⟨F,C+k*2,none⟩=some (.int .i64 X)/\W.cell? ⟨E,B+k*2,none⟩=some (.int .i64 Y)) (by kernel_rfl) (⟨c1,d1⟩) (λad=>?_);refine wpAnyH_take (i:=0) (oi:=⟨some 17,_,_,_,_,_⟩) (v:=?_) rfl (by kernel_rfl) (by kernel_rfl) (by kernel_rfl) (λ_ _ _ h=>h) (LH ⟨by kernel_rfl,?_⟩) (by assumption) ?_;rotate_left;focus ((intro w b;(try dsimp only at b);go_simp);(try with_reducible rfl);done)
     simp only[Act.put,JH,JM,JP];refine wpAnyH_take (i:=1) (oi:=⟨some 18,_,_,_,_,_⟩) (v:=?_) rfl (by kernel_rfl) (by kernel_rfl) (by kernel_rfl) (λ_ _ _ h=>h) (LH ⟨by kernel_rfl,?_⟩) (by assumption) ?_;rotate_left;focus ((intro w b;(try dsimp only at b);go_simp);(try with_reducible rfl);done)
     simp only[Act.put,JH,JM,JP];refine wpAnyH_take (i:=2) (oi:=⟨some 19,_,_,_,_,_⟩) (v:=?_) rfl (by kernel_rfl) (by kernel_rfl) (by kernel_rfl) (λ_ _ _ h=>h) (LH ⟨by kernel_rfl,?_⟩) (by assumption) ?_;rotate_left;focus ((intro w b;(try dsimp only at b);go_simp);(try with_reducible rfl);done)
     simp only[Act.put,JH,JM,JP];refine wpAnyH_take (i:=3) (oi:=⟨some 20,_,_,_,_,_⟩) (v:=?_) rfl (by kernel_rfl) (by kernel_rfl) (by kernel_rfl) (λ_ _ _ h=>h) (LH ⟨by kernel_rfl,?_⟩) (by assumption) ?_;rotate_left;focus ((intro w b;(try dsimp only at b);go_simp);(try with_reducible rfl);done)
     simp only[Act.put,JH,JM,JP];refine wpAnyH_take (i:=4) (oi:=⟨some 21,_,_,_,_,_⟩) (v:=?_) rfl (by kernel_rfl) (by kernel_rfl) (by kernel_rfl) (λ_ _ _ h=>h) (LH ⟨by kernel_rfl,?_⟩) (by assumption) ?_;rotate_left;focus ((intro w b;(try dsimp only at b);go_simp);(try with_reducible rfl);done)
     simp only[Act.put,JH,JM,JP];refine wpAnyH_take (i:=5) (oi:=⟨some 22,_,_,_,_,_⟩) (v:=?_) rfl (by kernel_rfl) (by kernel_rfl) (by kernel_rfl) (λ_ _ _ h=>h) (LH ⟨by kernel_rfl,?_⟩) (by assumption) ?_;rotate_left;focus ((intro w b;(try dsimp only at b);go_simp);(try with_reducible rfl);done)
     simp only[Act.put,JH,JM,JP];refine wpAnyH_take (i:=6) (oi:=⟨some 23,_,_,_,_,_⟩) (v:=?_) rfl (by kernel_rfl) (by kernel_rfl) (by kernel_rfl) (λ_ _ _ h=>h) (LH ⟨by kernel_rfl,?_⟩) (by assumption) ?_;rotate_left;focus ((intro w b;(try dsimp only at b);go_simp);(try with_reducible rfl);done)
     simp only[Act.put,JH,JM,JP];refine wpAnyH_take (i:=7) (oi:=⟨some 24,_,_,_,_,_⟩) (v:=?_) rfl (by kernel_rfl) (by kernel_rfl) (by kernel_rfl) (λ_ _ _ h=>h) (LH ⟨by kernel_rfl,?_⟩) (by assumption) ?_;rotate_left;focus ((intro w b;(try dsimp only at b);go_simp);(try with_reducible rfl);done)
     simp only[Act.put,JH,JM,JP];refine wpAnyH_take (i:=8) (oi:=⟨some 25,_,_,_,_,_⟩) (v:=?_) rfl (by kernel_rfl) (by kernel_rfl) (by kernel_rfl) (λ_ _ _ h=>h) (LH ⟨by kernel_rfl,?_⟩) (by assumption) ?_;rotate_left;focus ((intro w b;(try dsimp only at b);go_simp);(try with_reducible rfl);done)
     simp only[Act.put,JH,JM,JP];refine wpAnyH_take (i:=9) (oi:=⟨some 26,_,_,_,_,_⟩) (v:=?_) rfl (by kernel_rfl) (by kernel_rfl) (by kernel_rfl) (λ_ _ _ h=>h) (LH ⟨by kernel_rfl,?_⟩) (by assumption) ?_;rotate_left;focus ((intro w b;(try dsimp only at b);go_simp);(try with_reducible rfl);done)
     simp only[Act.put,JH,JM,JP];refine wpAnyH_take (i:=10) (oi:=⟨some 27,_,_,_,_,_⟩) (v:=?_) rfl (by kernel_rfl) (by kernel_rfl) (by kernel_rfl) (λ_ _ _ h=>h) (LH ⟨by kernel_rfl,?_⟩) (by assumption) ?_;rotate_left;focus ((intro w b;(try dsimp only at b);go_simp);(try with_reducible rfl);done)
     simp only[Act.put,JH,JM,JP];refine wpAnyH_take (i:=11) (oi:=⟨some 28,_,_,_,_,_⟩) (v:=?_) rfl (by kernel_rfl) (by kernel_rfl) (by kernel_rfl) (λ_ _ _ h=>h) (LH ⟨by kernel_rfl,?_⟩) (by assumption) ?_;rotate_left;focus ((intro w b;(try dsimp only at b);go_simp);(try with_reducible rfl);done)
     simp only[Act.put,JH,JM,JP];refine wpAnyH_take (i:=12) (oi:=⟨some 29,_,_,_,_,_⟩) (v:=undef) rfl (by kernel_rfl) (by kernel_rfl) (by kernel_rfl) (λ_ _ _ h=>h) (LI ⟨by kernel_rfl,rfl⟩) (by assumption) ?_;simp only[Act.put,JH,JM,JP];refine wpAnyH_take (i:=13) (oi:=⟨some 30,_,_,_,_,_⟩) (v:=undef) rfl (by kernel_rfl) (by kernel_rfl) (by kernel_rfl) (λ_ _ _ h=>h) (LI ⟨by kernel_rfl,rfl⟩) (by assumption) ?_;simp only[Act.put,JH,JM,JP];refine wpAnyH_take (i:=14) (oi:=⟨some 31,_,_,_,_,_⟩) (v:=undef) rfl (by kernel_rfl) (by kernel_rfl) (by kernel_rfl) (λ_ _ _ h=>h) (LI ⟨by kernel_rfl,rfl⟩) (by assumption) ?_;simp only[Act.put,JH,JM,JP];refine wpAnyH_take (i:=15) (oi:=⟨some 32,_,_,_,_,_⟩) (v:=undef) rfl (by kernel_rfl) (by kernel_rfl) (by kernel_rfl) (λ_ _ _ h=>h) (LI ⟨by kernel_rfl,rfl⟩) (by assumption) ?_;simp only[Act.put,JH,JM,JP];refine wpAnyH_take (i:=16) (oi:=⟨some 33,_,_,_,_,_⟩) (v:=undef) rfl (by kernel_rfl) (by kernel_rfl) (by kernel_rfl) (λ_ _ _ h=>h) (LI ⟨by kernel_rfl,rfl⟩) (by assumption) ?_;simp only[Act.put,JH,JM,JP];refine wpAnyH_take (i:=17) (oi:=⟨some 34,_,_,_,_,_⟩) (v:=undef) rfl (by kernel_rfl) (by kernel_rfl) (by kernel_rfl) (λ_ _ _ h=>h) (LI ⟨by kernel_rfl,rfl⟩) (by assumption) ?_;simp only[Act.put,JH,JM,JP];refine wpAnyH_take (i:=18) (oi:=⟨some 35,_,_,_,_,_⟩) (v:=undef) rfl (by kernel_rfl) (by kernel_rfl) (by kernel_rfl) (λ_ _ _ h=>h) (LI ⟨by kernel_rfl,rfl⟩) (by assumption) ?_;simp only[Act.put,JH,JM,JP];refine wpAnyH_take (i:=19) (oi:=⟨some 36,_,_,_,_,_⟩) (v:=undef) rfl (by kernel_rfl) (by kernel_rfl) (by kernel_rfl) (λ_ _ _ h=>h) (LI ⟨by kernel_rfl,rfl⟩) (by assumption) ?_;simp only[Act.put,JH,JM,JP];refine wpAnyH_take (i:=20) (oi:=⟨some 37,_,_,_,_,_⟩) (v:=undef) rfl (by kernel_rfl) (by kernel_rfl) (by kernel_rfl) (λ_ _ _ h=>h) (LI ⟨by kernel_rfl,rfl⟩) (by assumption) ?_;simp only[Act.put,JH,JM,JP];refine wpAnyH_take (i:=21) (oi:=⟨some 38,_,_,_,_,_⟩) (v:=undef) rfl (by kernel_rfl) (by kernel_rfl) (by kernel_rfl) (λ_ _ _ h=>h) (LI ⟨by kernel_rfl,rfl⟩) (by assumption) ?_;simp only[Act.put,JH,JM,JP];refine wpAnyH_take (i:=22) (oi:=⟨some 39,_,_,_,_,_⟩) (v:=undef) rfl (by kernel_rfl) (by kernel_rfl) (by kernel_rfl) (λ_ _ _ h=>h) (LI ⟨by kernel_rfl,rfl⟩) (by assumption) ?_;simp only[Act.put,JH,JM,JP];refine wpAnyH_take (i:=23) (oi:=⟨some 40,_,_,_,_,_⟩) (v:=undef) rfl (by kernel_rfl) (by kernel_rfl) (by kernel_rfl) (λ_ _ _ h=>h) (LI ⟨by kernel_rfl,rfl⟩) (by assumption) ?_;simp only[Act.put,JH,JM,JP];refine wpAnyH_take (i:=24) (oi:=⟨some 41,_,_,_,_,_⟩) (v:=?_) rfl (by kernel_rfl) (by kernel_rfl) (by kernel_rfl) (λ_ _ _ h=>h) (LH ⟨by kernel_rfl,?_⟩) (by assumption) ?_;rotate_left;focus ((intro w b;(try dsimp only at b);go_simp);(try with_reducible rfl);done)
     simp only[Act.put,JH,JM,JP];refine wpAnyH_done (by kernel_rfl) ?_ _;go_wp2_with fail;go_ret;exact⟨Oi z.out,G.out.drew⟩
   ·obtain rfl:k=N:=by omega
    have z:=JE (A.out u.out);clear A n;go_wp2_with fail;go_ret;exact⟨aK.yes z.out,G.out⟩
 ·have z:=JE (d.out O)
  have ab:¬(N:Int)=(M:Int):=by omega
  have J:((N:Int)==(M:Int))=false:=JL.2 ab;clear d f n;go_enter func67,ntmps67;go_wp2_with fail;go_ret;exact⟨Oi z.out,NQ _⟩
theorem zr {l:List St}(h:k<l.length):am l k=l[k]:=by
 unfold am;rw[JF,JG h];rfl
theorem zt {l:List Se}(h:k<l.length):aH l k=l[k]:=by
 unfold aH;rw[JF,JG h];rfl
theorem zu {a b:List St}(d:a.length=b.length)(h:∀ k,k<a.length->am a k=am b k):a=b:=ML d λk c f=>by
 have e:=h k c;rwa [zr c,zr f] at e
theorem zv {a b:List Se}(d:a.length=b.length)(h:∀ k,k<a.length->aH a k=aH b k):a=b:=ML d λk c f=>by
 have e:=h k c;rwa [zt c,zt f] at e
theorem It (x y x' y':Value)(p q:Pa)(w:World)(hp:PIn w x y p)(hq:PIn w x' y' q):Calls prog 19 #[.agg #[x,y],.agg #[x',y']] w λe w'=>aK e (p=q)/\Kp w w':=by
 have u:=JE (λW (l:Kp w W)=>fM x x' _ _ W (hp.pub.kp l) (hq.pub.kp l));have HS:=JE hp.step;have HT:=JE hq.step;obtain⟨ap,np,cp,rfl⟩:=aA hp.pub;obtain⟨aL,ao,aD,rfl⟩:=aA hq.pub;obtain⟨a6,c6,rfl,q3,q4⟩:=Ob hp.step;obtain⟨ab,aa,rfl,bd,bi⟩:=Ob hq.step;unfold maxLen at q4;have aY:Hid (p.pub≠q.pub->¬p=q):=λh e=>h (by rw[e])
 have z:Hid (p.step.length≠q.step.length->¬p=q):=λh e=>h (by rw[e])
 have U:Hid (∀ k,am p.step k≠am q.step k->¬p=q):=λk h e=>h (by rw[e])
 have HY:Hid (p.pub=q.pub->p.step.length=q.step.length->(∀ k,k<p.step.length->am p.step k=am q.step k)->p=q):=λh1 h2 I=>Pa.ext' h1 (zu h2 I)
 generalize (p=q)=P at *;generalize p.pub=PU at *;generalize q.pub=QU at *;generalize p.step=A at *;generalize q.step=B at *;obtain⟨N,hN⟩:∃ N,A.length=N:=⟨_,rfl⟩;obtain⟨M,hM⟩:∃ N,B.length=N:=⟨_,rfl⟩;have HN:=JE hN;have HM:=JE hM;rw[hN] at q3 z HY HS ⊢;rw[hM] at bd z HY HT ⊢;clear hp hq hN hM;by_cases m:PU=QU
 ·rw[Ke m] at u
  have aR:=JE (HY.out m);clear aY HY m;by_cases a2:N=M
  ·subst a2
   have aQ:=JE (aR.out rfl);clear aR z;go_enter func19,ntmps19;go_wp2_with fail;obtain⟨X,H⟩:∃ X,(w.alloc (.cells #[.slice ap np cp,.slice a6 N c6] 27)).alloc (.cells #[.slice aL ao aD,.slice ab N aa] 27)=X:=⟨_,rfl⟩;have hb:Bx X w.heap.size 27 #[.slice ap np cp,.slice a6 N c6]:=by rw[<-H];exact(Oa w _ _).kp ((NQ _).alloc _)
   have f:Bx X (w.heap.size+1) 27 #[.slice aL ao aD,.slice ab N aa]:=by
    rw[<-H];have:=Oa (w.alloc (.cells #[.slice ap np cp,.slice a6 N c6] 27)) 27 #[.slice aL ao aD,.slice ab N aa];rwa [JY] at this
   have a1:Kp w X:=by rw[<-H];exact((NQ _).alloc _).alloc _
   have HB:=JE (JN hb (JN f a1));have HC:Hid (∀ W,Kp X W->W.cell? ⟨w.heap.size,1,none⟩=some (.slice a6 N c6)/\W.cell? ⟨w.heap.size+1,1,none⟩=some (.slice ab N aa)):=λW l=>⟨(HB.out.1.kp l).cell 1,(HB.out.2.1.kp l).cell 1⟩
   obtain⟨d1,d3⟩:=HC.out _ (NQ _);rw[H];clear hb f a1 H;have bh:=JE (Od HS.out HB.out.2.2);have bg:=JE (Od HT.out HB.out.2.2);refine(u.out X HB.out.2.2).mono ?_;rintro _ _ ⟨rfl,rfl⟩;clear u HS HT;go_wp2_with fail;clear d1 d3;go_loopw[5] (λi wr=>∃ k:Nat,k<=N/\i=.int .i64 (k:Int)/\(∀ t,t<k->am A t=am B t)/\Kp X wr) (λi _=>(N - (intOf i).toNat))
   case atStart=>exact⟨0,JW _,rfl,λt h=>by omega,NQ _⟩
   case round=>
    obtain⟨k,hk,rfl,c,ax⟩:=hrel;have aX:=JE c;obtain⟨d,be⟩:∃ x:World,x=wr:=⟨_,rfl⟩;subst be;have KK:=JE ax;obtain⟨d1,d3⟩:=HC.out _ ax;clear c ax;by_cases a0:k<N
    ·obtain⟨g1,o1,x1,p1,f1,e1,_,n1⟩:=dl.nodeK (i:=k) bh.out (by rw[HN.out];exact a0)
     obtain⟨g2,o2,x2,p2,f2,e2,_,n2⟩:=dl.nodeK (i:=k) bg.out (by rw[HM.out];exact a0);rw[HN.out] at e1;rw[HM.out] at e2;simp only[JR] at e1 e2;obtain⟨rfl,_,rfl⟩:=e1;obtain⟨rfl,_,rfl⟩:=e2;have i1:IntKind.i64.wrap ((k:Int)+1)=(k:Int)+1:=JI _ (by omega);have i2:(k:Int)<(N:Int):=by omega
     obtain⟨c1,c2,aj,al⟩:=n1 d KK.out;obtain⟨c3,c4,ai,ak⟩:=n2 d KK.out;have aV:=JE (λW (l:Kp d W)=>fM p1 p2 _ _ W (aj.kp l) (ai.kp l));have bc:=JE al;have bb:=JE ak;have ah:=JE n2;obtain⟨L,D,J,rfl⟩:=aA aj;obtain⟨aJ,an,aC,rfl⟩:=aA ai;obtain⟨a7,c7,rfl,bV,t2⟩:=Ob al;obtain⟨a8,c8,rfl,t3,t4⟩:=Ob ak;unfold maxLen at t2;have R:=JE (U.out k);have ae:Hid (am A k=am B k->∀ t,t<k+1->am A t=am B t):=λhe t ht=>by
      rcases Kh (Kr.1 ht) with I|I
      ·exact aX.out t I
      ·rw[I];exact he
     have aU:Hid ((am A k).pub≠(am B k).pub->am A k≠am B k):=λh e=>h (by rw[e])
     have s:Hid ((am A k).fors.length≠(am B k).fors.length->am A k≠am B k):=λh e=>h (by rw[e])
     have aT:Hid (∀ j,aH (am A k).fors j≠aH (am B k).fors j->am A k≠am B k):=λj h e=>h (by rw[e])
     have O:Hid ((am A k).pub=(am B k).pub->(am A k).fors.length=(am B k).fors.length->(∀ j,j<(am A k).fors.length->aH (am A k).fors j=aH (am B k).fors j)->am A k=am B k):=λh1 h2 I=>St.ext' h1 (zv h2 I)
     clear n1 n2 aj ai al ak U aX aQ;generalize am A k=SA at *;generalize am B k=SB at *;generalize SA.pub=P1 at *;generalize SB.pub=P2 at *;generalize SA.fors=FA at *;generalize SB.fors=FB at *;obtain⟨F,hF⟩:∃ n,FA.length=n:=⟨_,rfl⟩;obtain⟨G,hG⟩:∃ n,FB.length=n:=⟨_,rfl⟩;have ba:=JE hF;have a9:=JE hG;rw[hF] at bV c2 s O bc;rw[hG] at t3 c4 s O bb;obtain⟨O1,bf⟩:∃ o,Obj.cells #[.slice L D J,.slice a7 F c7] 74=o:=⟨_,rfl⟩;have K1:Hid (Kp X (d.alloc (Obj.cells #[.slice L D J,.slice a7 F c7] 74))):=KK.out.alloc _;obtain⟨_,d4⟩:=HC.out _ K1.out;obtain⟨c5,a3,_,_⟩:=ah.out _ K1.out;rw[hG] at a3;clear hF hG bf;go_wp2_with fail;obtain⟨w2,E⟩:∃ w2,(d.alloc (.cells #[.slice L D J,.slice a7 F c7] 74)).alloc (.cells #[.slice aJ an aC,.slice a8 G c8] 74)=w2:=⟨_,rfl⟩;have hb:Bx w2 d.heap.size 74 #[.slice L D J,.slice a7 F c7]:=by rw[<-E];exact(Oa d _ _).kp ((NQ _).alloc _)
     have f:Bx w2 (d.heap.size+1) 74 #[.slice aJ an aC,.slice a8 G c8]:=by
      rw[<-E];have:=Oa (d.alloc (.cells #[.slice L D J,.slice a7 F c7] 74)) 74 #[.slice aJ an aC,.slice a8 G c8];rwa [JY] at this
     have ay:Kp d w2:=by rw[<-E];exact((NQ _).alloc _).alloc _
     have C:=JE (JN hb (JN f ay));have b0:=hb.cell 0;have b1:=hb.cell 1;have b2:=f.cell 0;have b3:=f.cell 1;simp only[JT,JS,JU] at b0 b1 b2 b3;rw[E];have KZ:=JE (HB.out.2.2.trans (KK.out.trans ay));clear hb f ay E d1 d3 d4 c1 c2 c3 c4 c5 a3 ah;refine(aV.out w2 C.out.2.2).mono ?_;rintro _ _ ⟨rfl,rfl⟩;by_cases hP:P1=P2
     ·rw[Ke hP]
      have aS:=JE (O.out hP);clear aU O aV hP;by_cases aB:F=G
      ·subst aB
       have a5:=JE (aS.out rfl);clear aS s;go_wp2_with fail;go_loopw[8] (λi wr=>∃ j:Nat,j<=F/\i=.int .i64 (j:Int)/\(∀ t,t<j->aH FA t=aH FB t)/\Kp w2 wr) (λi _=>(F - (intOf i).toNat))
       case atStart=>exact⟨0,JW _,rfl,λt h=>by omega,NQ _⟩
       case round=>
        obtain⟨j,hj,rfl,c,a4⟩:=hrel;have aW:=JE c;have KJ:=JE a4;clear c a4 b0 b1 b2 b3;have e0:=(C.out.1.kp KJ.out).cell 1;have e1:=(C.out.2.1.kp KJ.out).cell 1;simp only[JT,JS,JU] at e0 e1;by_cases ag:j<F
        ·obtain⟨ga,Z,ca,h1,v1,y1,_,m1⟩:=EL.nodeK (i:=j) bc.out (by rw[ba.out];exact ag)
         obtain⟨gb,Y,cb,h2,v2,y2,_,m2⟩:=EL.nodeK (i:=j) bb.out (by rw[a9.out];exact ag);rw[ba.out] at y1;rw[a9.out] at y2;simp only[JR] at y1 y2;obtain⟨rfl,_,rfl⟩:=y1;obtain⟨rfl,_,rfl⟩:=y2;have i4:IntKind.i64.wrap ((j:Int)+1)=(j:Int)+1:=JI _ (by omega);have i5:(j:Int)<(F:Int):=by omega
         obtain⟨f0,f1,r1,r2⟩:=m1 wr (C.out.2.2.trans KJ.out);obtain⟨f2,f3,r3,r4⟩:=m2 wr (C.out.2.2.trans KJ.out);have Q:=JE (λW (l:Kp wr W)=>fM h1 h2 _ _ W (r1.kp l) (r3.kp l));have ad:=JE (λW (l:Kp wr W)=>fM v1 v2 _ _ W (r2.kp l) (r4.kp l));obtain⟨aN,ar,aF,rfl⟩:=aA r1;obtain⟨aP,av,aI,rfl⟩:=aA r2;obtain⟨aM,aq,aE,rfl⟩:=aA r3;obtain⟨aO,au,aG,rfl⟩:=aA r4;have T:Hid ((aH FA j).half≠(aH FB j).half\/(aH FA j).b≠(aH FB j).b->¬P):=λh=>R.out (aT.out j λe=>by rw[e] at h;rcases h with h|h <;> exact h rfl)
         have af:Hid ((aH FA j).half=(aH FB j).half->(aH FA j).b=(aH FB j).b->∀ t,t<j+1->aH FA t=aH FB t):=λh1 h2 t ht=>by
          rcases Kh (Kr.1 ht) with I|I
          ·exact aW.out t I
          ·rw[I];exact Se.ext' h1 h2
         clear m1 m2 r1 r2 r3 r4 aW;generalize (aH FA j).half=H1 at *;generalize (aH FB j).half=H2 at *;generalize (aH FA j).b=B1 at *;generalize (aH FB j).b=B2 at *;by_cases hh:H1=H2
         ·rw[Ke hh] at Q
          by_cases r:B1=B2
          ·rw[Ke r] at ad
           have HP:=JE (af.out hh r);clear af T hh r;go_wp2_with fail;go_region_held3 (λW=>W.cell? ⟨d.heap.size,1,none⟩=some (.slice (some ⟨ga,Z,none⟩) F c7)/\W.cell? ⟨d.heap.size+1,1,none⟩=some (.slice (some ⟨gb,Y,none⟩) F c8)/\W.cell? ⟨ga,Z+j*2,none⟩=some (.slice aN ar aF)/\W.cell? ⟨ga,Z+j*2+1,none⟩=some (.slice aP av aI)/\W.cell? ⟨gb,Y+j*2,none⟩=some (.slice aM aq aE)/\W.cell? ⟨gb,Y+j*2+1,none⟩=some (.slice aO au aG))
            (first|exact⟨e0,e1,f0,f1,f2,f3⟩)
            (first|(go_at_call 29;refine(ad.out _ (by first|exact NQ _|exact(NQ _).drew)).mono ?_;rintro _ w9 ⟨rfl,rfl⟩)|(go_at_call 29;refine(Q.out _ (by first|exact NQ _|exact(NQ _).drew)).mono ?_;rintro _ w9 ⟨rfl,rfl⟩))
           go_wp2_with fail;go_roundw
           case rel=>exact⟨j+1,by omega,by go_num,HP.out,KJ.out.drew⟩
           case measure=>simp[intOf];omega
          ·rw[Kb r] at ad
           have g:=JE (T.out (.inr r));clear af T hh r;go_wp2_with fail;go_region_held3 (λW=>W.cell? ⟨d.heap.size,1,none⟩=some (.slice (some ⟨ga,Z,none⟩) F c7)/\W.cell? ⟨d.heap.size+1,1,none⟩=some (.slice (some ⟨gb,Y,none⟩) F c8)/\W.cell? ⟨ga,Z+j*2,none⟩=some (.slice aN ar aF)/\W.cell? ⟨ga,Z+j*2+1,none⟩=some (.slice aP av aI)/\W.cell? ⟨gb,Y+j*2,none⟩=some (.slice aM aq aE)/\W.cell? ⟨gb,Y+j*2+1,none⟩=some (.slice aO au aG))
            (first|exact⟨e0,e1,f0,f1,f2,f3⟩)
            (first|(go_at_call 29;refine(ad.out _ (by first|exact NQ _|exact(NQ _).drew)).mono ?_;rintro _ w9 ⟨rfl,rfl⟩)|(go_at_call 29;refine(Q.out _ (by first|exact NQ _|exact(NQ _).drew)).mono ?_;rintro _ w9 ⟨rfl,rfl⟩))
           go_wp2_with fail;go_ret;exact⟨Oi g.out,(KZ.out.trans KJ.out).drew⟩
         ·rw[Kb hh] at Q
          have g:=JE (T.out (.inl hh));clear af T hh;go_wp2_with fail;refine wp_region_held_drew (S:=λW=>W.cell? ⟨d.heap.size,1,none⟩=some (.slice (some ⟨ga,Z,none⟩) F c7)/\W.cell? ⟨d.heap.size+1,1,none⟩=some (.slice (some ⟨gb,Y,none⟩) F c8)/\W.cell? ⟨ga,Z+j*2,none⟩=some (.slice aN ar aF)/\W.cell? ⟨ga,Z+j*2+1,none⟩=some (.slice aP av aI)/\W.cell? ⟨gb,Y+j*2,none⟩=some (.slice aM aq aE)/\W.cell? ⟨gb,Y+j*2+1,none⟩=some (.slice aO au aG)) (by kernel_rfl) (⟨e0,e1,f0,f1,f2,f3⟩) (λaz=>?_);refine wpAnyH_take (i:=0) (oi:=⟨some 63,_,_,_,_,_⟩) (v:=?_) rfl (by kernel_rfl) (by kernel_rfl) (by kernel_rfl) (λ_ _ _ h=>h) (LH ⟨by kernel_rfl,?_⟩) (by assumption) ?_;rotate_left;focus ((intro w a;(try dsimp only at a);go_simp);(try with_reducible rfl);done)
          simp only[Act.put,JH,JM,JP];refine wpAnyH_take (i:=1) (oi:=⟨some 64,_,_,_,_,_⟩) (v:=?_) rfl (by kernel_rfl) (by kernel_rfl) (by kernel_rfl) (λ_ _ _ h=>h) (LH ⟨by kernel_rfl,?_⟩) (by assumption) ?_;rotate_left;focus ((intro w a;(try dsimp only at a);go_simp);(try with_reducible rfl);done)
          simp only[Act.put,JH,JM,JP];refine wpAnyH_take (i:=2) (oi:=⟨some 65,_,_,_,_,_⟩) (v:=?_) rfl (by kernel_rfl) (by kernel_rfl) (by kernel_rfl) (λ_ _ _ h=>h) (LH ⟨by kernel_rfl,?_⟩) (by assumption) ?_;rotate_left;focus ((intro w a;(try dsimp only at a);go_simp);(try with_reducible rfl);done)
          simp only[Act.put,JH,JM,JP];refine wpAnyH_take (i:=3) (oi:=⟨some 66,_,_,_,_,_⟩) (v:=?_) rfl (by kernel_rfl) (by kernel_rfl) (by kernel_rfl) (λ_ _ _ h=>h) (LH ⟨by kernel_rfl,?_⟩) (by assumption) ?_;rotate_left;focus ((intro w a;(try dsimp only at a);go_simp);(try with_reducible rfl);done)
          simp only[Act.put,JH,JM,JP];refine wpAnyH_take (i:=4) (oi:=⟨some 67,_,_,_,_,_⟩) (v:=?_) rfl (by kernel_rfl) (by kernel_rfl) (by kernel_rfl) (λ_ _ _ h=>h) (LH ⟨by kernel_rfl,?_⟩) (by assumption) ?_;rotate_left;focus ((intro w a;(try dsimp only at a);go_simp);(try with_reducible rfl);done)
          simp only[Act.put,JH,JM,JP];refine wpAnyH_take (i:=5) (oi:=⟨some 68,_,_,_,_,_⟩) (v:=?_) rfl (by kernel_rfl) (by kernel_rfl) (by kernel_rfl) (λ_ _ _ h=>h) (LH ⟨by kernel_rfl,?_⟩) (by assumption) ?_;rotate_left;focus ((intro w a;(try dsimp only at a);go_simp);(try with_reducible rfl);done)
          simp only[Act.put,JH,JM,JP];refine wpAnyH_take (i:=6) (oi:=⟨some 69,_,_,_,_,_⟩) (v:=?_) rfl (by kernel_rfl) (by kernel_rfl) (by kernel_rfl) (λ_ _ _ h=>h) (LH ⟨by kernel_rfl,?_⟩) (by assumption) ?_;rotate_left;focus ((intro w a;(try dsimp only at a);go_simp);(try with_reducible rfl);done)
          simp only[Act.put,JH,JM,JP];refine wpAnyH_take (i:=7) (oi:=⟨some 70,_,_,_,_,_⟩) (v:=?_) rfl (by kernel_rfl) (by kernel_rfl) (by kernel_rfl) (λ_ _ _ h=>h) (LH ⟨by kernel_rfl,?_⟩) (by assumption) ?_;rotate_left;focus ((intro w a;(try dsimp only at a);go_simp);(try with_reducible rfl);done)
          simp only[Act.put,JH,JM,JP];refine wpAnyH_take (i:=8) (oi:=⟨some 71,_,_,_,_,_⟩) (v:=?_) rfl (by kernel_rfl) (by kernel_rfl) (by kernel_rfl) (λ_ _ _ h=>h) (LH ⟨by kernel_rfl,?_⟩) (by assumption) ?_;rotate_left;focus ((intro w a;(try dsimp only at a);go_simp);(try with_reducible rfl);done)
          simp only[Act.put,JH,JM,JP];refine wpAnyH_take (i:=9) (oi:=⟨some 72,_,_,_,_,_⟩) (v:=?_) rfl (by kernel_rfl) (by kernel_rfl) (by kernel_rfl) (λ_ _ _ h=>h) (LH ⟨by kernel_rfl,?_⟩) (by assumption) ?_;rotate_left;focus ((intro w a;(try dsimp only at a);go_simp);(try with_reducible rfl);done)
          simp only[Act.put,JH,JM,JP];refine wpAnyH_take (i:=10) (oi:=⟨some 73,_,_,_,_,_⟩) (v:=?_) rfl (by kernel_rfl) (by kernel_rfl) (by kernel_rfl) (λ_ _ _ h=>h) (LH ⟨by kernel_rfl,?_⟩) (by assumption) ?_;rotate_left;focus ((intro w a;(try dsimp only at a);go_simp);(try with_reducible rfl);done)
          simp only[Act.put,JH,JM,JP];refine wpAnyH_take (i:=11) (oi:=⟨some 74,_,_,_,_,_⟩) (v:=?_) rfl (by kernel_rfl) (by kernel_rfl) (by kernel_rfl) (λ_ _ _ h=>h) (LH ⟨by kernel_rfl,?_⟩) (by assumption) ?_;rotate_left;focus ((intro w a;(try dsimp only at a);go_simp);(try with_reducible rfl);done)
          simp only[Act.put,JH,JM,JP];refine wpAnyH_ready (rs:=[12]) (by kernel_rfl) (by simp) ?_;refine AllReadyH.cons (o:=⟨some 75,_,_,_,_,_⟩) rfl (λK hK=>?_) AllReadyH.nil;go_simp;go_at_call 29;refine(Q.out _ (by first|exact NQ _|exact(NQ _).drew)).mono ?_;rintro _ w9 ⟨rfl,rfl⟩
          refine hK.out _ _ (⟨e0,e1,f0,f1,f2,f3⟩) (λaz=>?_);clear hK K;try simp only[Act.put,JH,JM,JP]
          refine wpAnyH_take (i:=13) (oi:=⟨some 76,_,_,_,_,_⟩) (v:=?_) rfl (by kernel_rfl) (by kernel_rfl) (by kernel_rfl) (λ_ _ _ h=>h) (LH ⟨by kernel_rfl,?_⟩) (by assumption) ?_;rotate_left;focus ((intro w a;(try dsimp only at a);go_simp);(try with_reducible rfl);done)
          simp only[Act.put,JH,JM,JP];refine wpAnyH_take (i:=14) (oi:=⟨some 77,_,_,_,_,_⟩) (v:=?_) rfl (by kernel_rfl) (by kernel_rfl) (by kernel_rfl) (λ_ _ _ h=>h) (LH ⟨by kernel_rfl,?_⟩) (by assumption) ?_;rotate_left;focus ((intro w a;(try dsimp only at a);go_simp);(try with_reducible rfl);done)
          simp only[Act.put,JH,JM,JP];refine wpAnyH_take (i:=15) (oi:=⟨some 78,_,_,_,_,_⟩) (v:=undef) rfl (by kernel_rfl) (by kernel_rfl) (by kernel_rfl) (λ_ _ _ h=>h) (LI ⟨by kernel_rfl,rfl⟩) (by assumption) ?_;simp only[Act.put,JH,JM,JP];refine wpAnyH_take (i:=16) (oi:=⟨some 79,_,_,_,_,_⟩) (v:=undef) rfl (by kernel_rfl) (by kernel_rfl) (by kernel_rfl) (λ_ _ _ h=>h) (LI ⟨by kernel_rfl,rfl⟩) (by assumption) ?_;simp only[Act.put,JH,JM,JP];refine wpAnyH_take (i:=17) (oi:=⟨some 80,_,_,_,_,_⟩) (v:=undef) rfl (by kernel_rfl) (by kernel_rfl) (by kernel_rfl) (λ_ _ _ h=>h) (LI ⟨by kernel_rfl,rfl⟩) (by assumption) ?_;simp only[Act.put,JH,JM,JP];refine wpAnyH_take (i:=18) (oi:=⟨some 81,_,_,_,_,_⟩) (v:=undef) rfl (by kernel_rfl) (by kernel_rfl) (by kernel_rfl) (λ_ _ _ h=>h) (LI ⟨by kernel_rfl,rfl⟩) (by assumption) ?_;simp only[Act.put,JH,JM,JP];refine wpAnyH_take (i:=19) (oi:=⟨some 82,_,_,_,_,_⟩) (v:=undef) rfl (by kernel_rfl) (by kernel_rfl) (by kernel_rfl) (λ_ _ _ h=>h) (LI ⟨by kernel_rfl,rfl⟩) (by assumption) ?_;simp only[Act.put,JH,JM,JP];refine wpAnyH_take (i:=20) (oi:=⟨some 83,_,_,_,_,_⟩) (v:=undef) rfl (by kernel_rfl) (by kernel_rfl) (by kernel_rfl) (λ_ _ _ h=>h) (LI ⟨by kernel_rfl,rfl⟩) (by assumption) ?_;simp only[Act.put,JH,JM,JP];refine wpAnyH_take (i:=21) (oi:=⟨some 84,_,_,_,_,_⟩) (v:=undef) rfl (by kernel_rfl) (by kernel_rfl) (by kernel_rfl) (λ_ _ _ h=>h) (LI ⟨by kernel_rfl,rfl⟩) (by assumption) ?_;simp only[Act.put,JH,JM,JP];refine wpAnyH_take (i:=22) (oi:=⟨some 85,_,_,_,_,_⟩) (v:=undef) rfl (by kernel_rfl) (by kernel_rfl) (by kernel_rfl) (λ_ _ _ h=>h) (LI ⟨by kernel_rfl,rfl⟩) (by assumption) ?_;simp only[Act.put,JH,JM,JP];refine wpAnyH_take (i:=23) (oi:=⟨some 86,_,_,_,_,_⟩) (v:=undef) rfl (by kernel_rfl) (by kernel_rfl) (by kernel_rfl) (λ_ _ _ h=>h) (LI ⟨by kernel_rfl,rfl⟩) (by assumption) ?_;simp only[Act.put,JH,JM,JP];refine wpAnyH_take (i:=24) (oi:=⟨some 87,_,_,_,_,_⟩) (v:=undef) rfl (by kernel_rfl) (by kernel_rfl) (by kernel_rfl) (λ_ _ _ h=>h) (LI ⟨by kernel_rfl,rfl⟩) (by assumption) ?_;simp only[Act.put,JH,JM,JP];refine wpAnyH_take (i:=25) (oi:=⟨some 88,_,_,_,_,_⟩) (v:=undef) rfl (by kernel_rfl) (by kernel_rfl) (by kernel_rfl) (λ_ _ _ h=>h) (LI ⟨by kernel_rfl,rfl⟩) (by assumption) ?_;simp only[Act.put,JH,JM,JP];refine wpAnyH_take (i:=26) (oi:=⟨some 89,_,_,_,_,_⟩) (v:=undef) rfl (by kernel_rfl) (by kernel_rfl) (by kernel_rfl) (λ_ _ _ h=>h) (LI ⟨by kernel_rfl,rfl⟩) (by assumption) ?_;simp only[Act.put,JH,JM,JP];refine wpAnyH_take (i:=27) (oi:=⟨some 90,_,_,_,_,_⟩) (v:=undef) rfl (by kernel_rfl) (by kernel_rfl) (by kernel_rfl) (λ_ _ _ h=>h) (LI ⟨by kernel_rfl,rfl⟩) (by assumption) ?_;simp only[Act.put,JH,JM,JP];refine wpAnyH_take (i:=28) (oi:=⟨some 91,_,_,_,_,_⟩) (v:=undef) rfl (by kernel_rfl) (by kernel_rfl) (by kernel_rfl) (λ_ _ _ h=>h) (LI ⟨by kernel_rfl,rfl⟩) (by assumption) ?_;simp only[Act.put,JH,JM,JP];refine wpAnyH_take (i:=29) (oi:=⟨some 92,_,_,_,_,_⟩) (v:=?_) rfl (by kernel_rfl) (by kernel_rfl) (by kernel_rfl) (λ_ _ _ h=>h) (LH ⟨by kernel_rfl,?_⟩) (by assumption) ?_;rotate_left;focus ((intro w a;(try dsimp only at a);go_simp);(try with_reducible rfl);done)
          simp only[Act.put,JH,JM,JP];refine wpAnyH_done (by kernel_rfl) ?_ _;go_wp2_with fail;go_ret;exact⟨Oi g.out,(KZ.out.trans KJ.out).drew⟩
        ·obtain rfl:j=F:=by omega
         have g:=JE (ae.out (a5.out aW.out));clear ae a5;go_wp2_with fail;go_roundw
         case rel=>exact⟨k+1,by omega,by go_num,g.out,KK.out.trans (C.out.2.2.trans KJ.out)⟩
         case measure=>simp[intOf];omega
      ·have g:=JE (R.out (s.out aB))
       have aw:¬(F:Int)=(G:Int):=by omega
       have aZ:((F:Int)==(G:Int))=false:=JL.2 aw;clear aS s aT R ae aB;go_wp2_with fail;go_ret;exact⟨Oi g.out,KZ.out⟩
     ·rw[Kb hP]
      have g:=JE (R.out (aU.out hP));clear aU s aT O R ae hP aV;go_wp2_with fail;go_ret;exact⟨Oi g.out,KZ.out⟩
    ·obtain rfl:k=N:=by omega
     have g:=JE (aQ.out aX.out);clear U aQ;go_wp2_with fail;go_ret;exact⟨aK.yes g.out,HB.out.2.2.trans KK.out⟩
  ·have g:=JE (z.out a2)
   have aw:¬(N:Int)=(M:Int):=by omega
   have aZ:((N:Int)==(M:Int))=false:=JL.2 aw;clear z U aR;have V:Hid (∀ o o':Obj,Kp w ((w.alloc o).alloc o')):=λ_ _=>((NQ _).alloc _).alloc _
   go_enter func19,ntmps19;go_wp2_with fail;refine(u.out _ (V.out _ _)).mono ?_;rintro _ _ ⟨rfl,rfl⟩;go_wp2_with fail;go_ret;exact⟨Oi g.out,V.out _ _⟩
 ·rw[Kb m] at u
  have g:=JE (aY.out m);have V:Hid (∀ o o':Obj,Kp w ((w.alloc o).alloc o')):=λ_ _=>((NQ _).alloc _).alloc _
  clear aY z U HY m;go_enter func19,ntmps19;go_wp2_with fail;refine(u.out _ (V.out _ _)).mono ?_;rintro _ _ ⟨rfl,rfl⟩;go_wp2_with fail;go_ret;exact⟨Oi g.out,V.out _ _⟩
def mm (t:List Nod)(K:Nat)(me:Int)(own:List Sd)(k:Nat):Prop:=
 ((aG own k).node=2*me\/∃ x∈aL K 0 me.toNat,(x:Int)=(aG own k).node/\(ats t x).kind=2)/\(aG own k).seed.length=32/\aI (aG own k).seed=(ats t (aG own k).node.toNat).pub/\(0<k->(aG own (k - 1)).node<(aG own k).node)
def jX (t:List Nod)(me:Int)(own:List Sd)(x:Nat):Prop:=(ats t x).kind=2->me∉(ats t x).un->(aZ own (x:Int)).length≠0
theorem qF {t:List Nod}{K me:Nat}{own:List Sd}:bZ t K (me:Int) own↔bc t (me:Int)/\(∀ k,k<own.length->mm t K (me:Int) own k)/\(∀ k,k<K->jX t (me:Int) own (nd (k+1) (me / 2 ^ (k+1))))/\(aZ own (2*(me:Int))).length≠0:=by
 unfold bZ;rw[JX];constructor
 ·rintro⟨d,c,b,a⟩
  exact⟨d,c,λk h=>b _ (ki.2 ⟨k+1,by omega,by omega,rfl⟩),a⟩
 ·rintro⟨d,c,b,a⟩
  refine⟨d,c,λx e=>?_,a⟩;obtain⟨j,g,f,rfl⟩:=ki.1 e;have:=b (j - 1) (by omega);rwa [show j - 1+1=j by omega] at this
theorem oG {l:List Nat}{n:Int}:inL l n=true↔∃ x∈l,(x:Int)=n:=by
 unfold inL;rw[Mv];constructor
 ·rintro⟨x,a,h⟩
  exact⟨x,a,Ly h⟩
 ·rintro⟨x,a,h⟩
  exact⟨x,a,Ke h⟩
theorem IV (aa v:Value)(t:List Nod)(K me:Nat)(own:List Sd)(w:World)(hu:NL w aa t)(F:aD t K)(hv:SL w v own)(G:(ats t (2*me)).kind=1)(a0:own.length<=100000):
  Calls prog 17 #[aa,.int .i64 (me:Int),v] w λe w'=>aK e (bZ t K (me:Int) own)/\Kp w w':=by
 obtain⟨z1,z2,z3⟩:=F.small;have bh:=bP F.le;have bq:=F.le;have aN:=(F.there_iff me).2 G;have aO:=Oe (t:=t) (x:=2*me) (by rw[G];decide);have ay:me<2 ^ K:=by omega
 have aF:=JE (ox aa t (me:Int) w hu (by omega));rw[Ke aN] at aF;have HL:=JE (gU aa t w hu (by omega));rw[F.lv] at HL;have HP:=JE (λW=>pH K 0 me W F.le (JW _) (by simpa using ay));rw[eF] at HP;have an:=JE (λW (p:Value) (hp:RN W p (aL K 0 me)) (n:Int)=>wO p (aL K 0 me) n W hp);have aW:=JE (λW (q:Value) (sd:List UInt8) (hq:Rd W q sd)=>zm q sd W hq);have ao:=JE (λW (hW:Kp w W) n=>yJ v own n W (Od hv hW) a0);have bb:=JE (λW (q:Value) (l:List Int) (hq:RI W q l)=>sE q l (me:Int) W hq);have bc:=JE (λm (h:m<K)=>tb (i:=me) h);have bm:=JE (mi K me);have R:Hid (∀ k,k<own.length->¬mm t K (me:Int) own k->¬bZ t K (me:Int) own):=λk hk h e=>h ((qF.1 e).2.1 k hk)
 have am:Hid (∀ k,k<K->¬jX t (me:Int) own (nd (k+1) (me / 2 ^ (k+1)))->¬bZ t K (me:Int) own):=λk hk h e=>h ((qF.1 e).2.2.1 k hk)
 have Q:Hid ((aZ own (2*(me:Int))).length=0->¬bZ t K (me:Int) own):=λh e=>(qF.1 e).2.2.2 h
 have O:Hid ((∀ k,k<own.length->mm t K (me:Int) own k)->(∀ k,k<K->jX t (me:Int) own (nd (k+1) (me / 2 ^ (k+1))))->(aZ own (2*(me:Int))).length≠0->bZ t K (me:Int) own):=λh1 J h3=>qF.2 ⟨aN,h1,J,h3⟩
 have aE:Hid (∀ k,k<K->nd (k+1) (me / 2 ^ (k+1))<t.length):=λk hk=>by rw[F.len];exact eP ay (ki.2 ⟨k+1,by omega,by omega,rfl⟩)
 have I:Hid (∀ x∈aL K 0 me,x<t.length):=λx hx=>by rw[F.len];exact eP ay hx
 have aC:Hid (∀ k,mm t K (me:Int) own k↔((aG own k).node=2*(me:Int)\/∃ x∈aL K 0 me,(x:Int)=(aG own k).node/\(ats t x).kind=2)/\(aG own k).seed.length=32/\aI (aG own k).seed=(ats t (aG own k).node.toNat).pub/\(0<k->(aG own (k - 1)).node<(aG own k).node)):=λk=>by unfold mm;rw[JX]
 have i2:IntKind.i64.wrap (2*(me:Int))=((2*me:Nat):Int):=by rw[JI _ (by omega)];omega
 have e2:(2*(me:Int))=((2*me:Nat):Int):=by omega
 have HU:=JE hu;have HV:=JE hv;obtain⟨a,c,rfl,p1,s1⟩:=hu.shape;obtain⟨av,cv,rfl,p2,s2⟩:=hv.shape;unfold maxLen at s2;rw[e2] at Q O aC;generalize bZ t K (me:Int) own=P at *;generalize mm t K (me:Int) own=SO at *;generalize bi:aL K 0 me=PT at *;generalize bj:2 ^ K=L at *;obtain⟨N,hN⟩:∃ N,t.length=N:=⟨_,rfl⟩;obtain⟨M,hM⟩:∃ N,own.length=N:=⟨_,rfl⟩;have HN:=JE hN;have HM:=JE hM;rw[hN] at aF HL p1 z1 aO aE I HU ⊢;rw[hM] at R O p2 HV a0 ao ⊢;have a6:=JE aO;generalize a9:2*me=M2 at *;have bv:=JE a9;clear hu F hv G bh aN aO ay bi bj hN hM z2 z3 e2 a9;go_enter func17,ntmps17;go_wp2_with fail;refine aF.out.mono ?_;rintro _ _ ⟨rfl,rfl⟩;go_wp2_with fail;refine HL.out.mono ?_;rintro _ _ ⟨rfl,rfl⟩;go_wp2_with fail;refine(HP.out w).mono ?_;rintro _ w1 ⟨⟨pv,rfl,o1⟩,k1⟩;have r1:=o1.rn;obtain⟨ap,cp,e1,aV,s3⟩:=r1.shape;subst e1;rw[bm.out] at r1 aV ⊢;have R1:=JE (JN r1 k1);clear o1 r1 k1 HP HL aF;go_wp2_with fail;go_loopw[10] (λi wr=>∃ k:Nat,k<=M/\i=.int .i64 (k:Int)/\(∀ j,j<k->SO j)/\Kp w1 wr) (λi _=>(M - (intOf i).toNat))
 case atStart=>exact⟨0,JW _,rfl,λt h=>by omega,NQ _⟩
 case round=>
  obtain⟨k,hk,rfl,D,ah⟩:=hrel;have C:=JE D;have KK:=JE ah;clear D ah;by_cases a7:k<M
  ·obtain⟨gs,os,cs,q,e1,_,a5⟩:=SL.nodeK (i:=k) HV.out (by rw[HM.out];exact a7)
   rw[HM.out] at e1;simp only[JR] at e1;obtain⟨rfl,_,rfl⟩:=e1;have KW:=JE (R1.out.2.trans KK.out);obtain⟨c0,c1,hq⟩:=a5 wr KW.out;have i1:IntKind.i64.wrap ((k:Int)+1)=(k:Int)+1:=JI _ (by omega);have i3:(k:Int)<(M:Int):=by omega
   have HQ:=JE hq;obtain⟨aq,nq,cq,rfl⟩:=aA hq;have bd:Hid (∀ W,Kp w W->0<k->W.cell? ⟨gs,os+(k - 1)*2,none⟩=some (.int .i64 (aG own (k - 1)).node)):=λW hW h0=>by
    obtain⟨g2,o2,c2,q2,e2,_,J⟩:=SL.nodeK (i:=k - 1) HV.out (by rw[HM.out];omega);simp only[JR,Ky,Lv,and_true] at e2;obtain⟨⟨rfl,rfl⟩,_⟩:=e2;exact(J W hW).1
   have s:=JE (R.out k a7);have HS:=JE (aC.out k);have d:Hid (SO k->∀ j,j<k+1->SO j):=λh j hj=>by
    rcases Kh (Kr.1 hj) with h3|h3
    ·exact C.out j h3
    ·rw[h3];exact h
   have HI:=JE (an.out wr _ (R1.out.1.kp KK.out));clear a5 hq R aC C;generalize (aG own k).node=X at *;generalize (aG own k).seed=SD at *;generalize (aG own (k - 1)).node=XP at *;go_wp2_with fail;refine(HI.out X).mono ?_;rintro _ _ ⟨rfl,rfl⟩;by_cases B:X=(M2:Int)\/∃ x∈PT,(x:Int)=X/\(ats t x).kind=2
   ·have hx:∃ x:Nat,X=(x:Int)/\x<N:=by
     rcases B with h|⟨x,h1,J,_⟩
     ·exact⟨M2,h,a6.out⟩
     ·exact⟨x,J.symm,I.out x h1⟩
    obtain⟨x,rfl,ae⟩:=hx;have aY:(x:Int)<(N:Int):=by omega
    obtain⟨b,aJ,rfl,_,hc⟩:=HU.out.at x ae;obtain⟨pp,uu,hh,hn⟩:=hc x ae;have Y:Hid (∀ W,Kp w W->W.cell? ⟨b,aJ+x*5+2,none⟩=some pp/\Rd W pp (ats t x).pub):=λW hW=>⟨(hn.kp hW).pubC,hn.2.pub.kp hW⟩
    have bl:=(hn.kp KW.out).kind;have g:Hid (SO k↔SD.length=32/\aI SD=(ats t x).pub/\(0<k->XP<(x:Int))):=by
     unfold Hid;rw[HS.out,JX];exact⟨λh=>h.2,λh=>⟨B,h⟩⟩
    have V:=JE (aW.out wr _ SD HQ.out);have ak:Hid ((x:Int)≠(M2:Int)->inL PT (x:Int)=true/\(ats t x).kind=2):=λh=>by
     rcases B with h1|⟨y,h1,J,h3⟩
     ·exact absurd h1 h
     ·have:y=x:=by omega
      subst this;exact⟨oG.2 ⟨y,h1,rfl⟩,h3⟩
    have bu:=JE hn.2.pub;obtain⟨bt,br,bs,rfl⟩:=aA hn.2.pub;clear B HS hn hc aW I HI an HQ;generalize (ats t x).pub=TP at *;generalize (ats t x).kind=KD at *;generalize inL PT (x:Int)=IL at *;by_cases J:(x:Int)=(M2:Int)
    ·have bf:x=M2:=by omega
     subst bf;clear ak J;go_wp2_with fail;refine V.out.mono ?_;rintro _ w3 ⟨⟨r3,rfl,S⟩,k3⟩;have K3:=JE (KW.out.trans k3);have aj:=JE (KK.out.trans k3);obtain⟨f2,E⟩:=Y.out w3 K3.out;by_cases f:SD.length=32
     ·obtain⟨u1,u2⟩:=eC f
      rw[u1];rw[u2] at S;have z:=JE (fM r3 _ _ _ w3 S E);obtain⟨aR,aM,aQ,rfl⟩:=aA S;clear V k3 E S u1 u2;by_cases o:aI SD=TP
      ·rw[Ke o] at z
       by_cases H:0<k
       ·have aP:(0:Int)<(k:Int):=by omega
        have i5:IntKind.i64.wrap ((k:Int) - 1)=((k - 1:Nat):Int):=by rw[JI _ (by omega)];omega
        have i6:((k - 1:Nat):Int)<(M:Int):=by omega
        have c7:=bd.out w3 K3.out H;generalize k - 1=KP at *;by_cases ad:XP<(x:Int)
        ·have u:=JE (d.out (g.out.2 ⟨f,o,λ_=>ad⟩))
         clear g d s o f;have ab:¬(x:Int)<=XP:=by omega
         go_wp2_with fail;refine z.out.mono ?_;rintro _ _ ⟨rfl,rfl⟩;go_wp2_with fail;go_roundw
         case rel=>exact⟨k+1,by omega,by go_num,u.out,aj.out⟩
         case measure=>simp[intOf];omega
        ·have u:=JE (s.out λh=>ad ((g.out.1 h).2.2 H))
         clear g d s o f;have ab:(x:Int)<=XP:=by omega
         go_wp2_with fail;refine z.out.mono ?_;rintro _ _ ⟨rfl,rfl⟩;go_wp2_with fail;go_ret;exact⟨Oi u.out,K3.out⟩
       ·have u:=JE (d.out (g.out.2 ⟨f,o,λh=>absurd h H⟩))
        have aP:¬(0:Int)<(k:Int):=by omega
        clear g d s o f;go_wp2_with fail;refine z.out.mono ?_;rintro _ _ ⟨rfl,rfl⟩;go_wp2_with fail;go_roundw
        case rel=>exact⟨k+1,by omega,by go_num,u.out,aj.out⟩
        case measure=>simp[intOf];omega
      ·rw[Kb o] at z
       have u:=JE (s.out λh=>o (g.out.1 h).2.1);clear g d s o f;go_wp2_with fail;refine z.out.mono ?_;rintro _ _ ⟨rfl,rfl⟩;go_wp2_with fail;go_ret;exact⟨Oi u.out,K3.out⟩
     ·have af:fO SD=1:=by unfold fO;rw[if_neg f]
      rw[af];have u:=JE (s.out λh=>f (g.out.1 h).1);obtain⟨aR,aM,aQ,rfl⟩:=aA S;clear V k3 E S af g d s f;go_wp2_with fail;go_ret;exact⟨Oi u.out,K3.out⟩
    ·have ax:((x:Int)==(M2:Int))=false:=JL.2 J
     have a4:((x:Int) != (M2:Int))=true:=Lt.2 J;obtain⟨rfl,rfl⟩:=ak.out J;clear ak;go_wp2_with fail;refine V.out.mono ?_;rintro _ w3 ⟨⟨r3,rfl,S⟩,k3⟩;have K3:=JE (KW.out.trans k3);have aj:=JE (KK.out.trans k3);obtain⟨f2,E⟩:=Y.out w3 K3.out;by_cases f:SD.length=32
     ·obtain⟨u1,u2⟩:=eC f
      rw[u1];rw[u2] at S;have z:=JE (fM r3 _ _ _ w3 S E);obtain⟨aR,aM,aQ,rfl⟩:=aA S;clear V k3 E S u1 u2;by_cases o:aI SD=TP
      ·rw[Ke o] at z
       by_cases H:0<k
       ·have aP:(0:Int)<(k:Int):=by omega
        have i5:IntKind.i64.wrap ((k:Int) - 1)=((k - 1:Nat):Int):=by rw[JI _ (by omega)];omega
        have i6:((k - 1:Nat):Int)<(M:Int):=by omega
        have c7:=bd.out w3 K3.out H;generalize k - 1=KP at *;by_cases ad:XP<(x:Int)
        ·have u:=JE (d.out (g.out.2 ⟨f,o,λ_=>ad⟩))
         clear g d s o f;have ab:¬(x:Int)<=XP:=by omega
         go_wp2_with fail;refine z.out.mono ?_;rintro _ _ ⟨rfl,rfl⟩;go_wp2_with fail;go_roundw
         case rel=>exact⟨k+1,by omega,by go_num,u.out,aj.out⟩
         case measure=>simp[intOf];omega
        ·have u:=JE (s.out λh=>ad ((g.out.1 h).2.2 H))
         clear g d s o f;have ab:(x:Int)<=XP:=by omega
         go_wp2_with fail;refine z.out.mono ?_;rintro _ _ ⟨rfl,rfl⟩;go_wp2_with fail;go_ret;exact⟨Oi u.out,K3.out⟩
       ·have u:=JE (d.out (g.out.2 ⟨f,o,λh=>absurd h H⟩))
        have aP:¬(0:Int)<(k:Int):=by omega
        clear g d s o f;go_wp2_with fail;refine z.out.mono ?_;rintro _ _ ⟨rfl,rfl⟩;go_wp2_with fail;go_roundw
        case rel=>exact⟨k+1,by omega,by go_num,u.out,aj.out⟩
        case measure=>simp[intOf];omega
      ·rw[Kb o] at z
       have u:=JE (s.out λh=>o (g.out.1 h).2.1);clear g d s o f;go_wp2_with fail;refine z.out.mono ?_;rintro _ _ ⟨rfl,rfl⟩;go_wp2_with fail;go_ret;exact⟨Oi u.out,K3.out⟩
     ·have af:fO SD=1:=by unfold fO;rw[if_neg f]
      rw[af];have u:=JE (s.out λh=>f (g.out.1 h).1);obtain⟨aR,aM,aQ,rfl⟩:=aA S;clear V k3 E S af g d s f;go_wp2_with fail;go_ret;exact⟨Oi u.out,K3.out⟩
   ·have u:=JE (s.out λh=>B ((HS.out.1 h).1))
    have J:¬X=(M2:Int):=λh=>B (.inl h)
    have ax:(X==(M2:Int))=false:=JL.2 J;have a4:(X != (M2:Int))=true:=Lt.2 J;by_cases az:∃ x∈PT,(x:Int)=X
    ·have ai:inL PT X=true:=oG.2 az
     obtain⟨x,hx,rfl⟩:=az;have U:¬(ats t x).kind=2:=λh=>B (.inr ⟨x,hx,rfl,h⟩)
     have ae:=I.out x hx;have aY:(x:Int)<(N:Int):=by omega
     obtain⟨b,aJ,rfl,_,hc⟩:=HU.out.at x ae;obtain⟨pp,uu,hh,hn⟩:=hc x ae;have bl:=(hn.kp KW.out).kind;rw[ai];generalize (ats t x).kind=KD at *;have bo:(KD==2)=false:=JL.2 U;have bn:(KD != 2)=true:=Lt.2 U;clear B hc hn I ai HS s d HI an;go_wp2_with fail;go_ret;exact⟨Oi u.out,KW.out⟩
    ·have ai:inL PT X=false:=by
      cases h:inL PT X
      ·rfl
      ·exact absurd (oG.1 h) az
     rw[ai];clear B az ai I HS s d HI an;go_wp2_with fail;go_ret;exact⟨Oi u.out,KW.out⟩
  ·obtain rfl:k=M:=by omega
   obtain⟨wk,bg⟩:∃ x:World,x=wr:=⟨_,rfl⟩;subst bg;have ba:=JE (O.out C.out);have K1:=JE (R1.out.2.trans KK.out);have R2:=JE (R1.out.1.kp KK.out);clear R O I aC aW an C R1;go_wp2_with fail;go_loopw[15] (λi wr=>∃ m:Nat,m<=K/\i=.int .i64 (m:Int)/\(∀ j,j<m->jX t (me:Int) own (nd (j+1) (me / 2 ^ (j+1))))/\Kp wk wr) (λi _=>(K - (intOf i).toNat))
   case atStart=>exact⟨0,JW _,rfl,λt h=>by omega,NQ _⟩
   case round=>
    obtain⟨m,hm,rfl,D,ah⟩:=hrel;have C:=JE D;have KM:=JE ah;clear D ah;by_cases ag:m<K
    ·obtain⟨gp,op,rfl,_,a8⟩:=(R2.out.kp KM.out).at m ag
     have c0:=a8 m ag;rw[bc.out m ag] at c0;have aT:=JE (aE.out m ag);have Y:=JE (am.out m ag);have i1:IntKind.i64.wrap ((m:Int)+1)=(m:Int)+1:=JI _ (by omega);have i3:(m:Int)<(K:Int):=by omega
     have d:Hid (jX t (me:Int) own (nd (m+1) (me / 2 ^ (m+1)))->∀ j,j<m+1->jX t (me:Int) own (nd (j+1) (me / 2 ^ (j+1)))):=λh j hj=>by
      rcases Kh (Kr.1 hj) with h3|h3
      ·exact C.out j h3
      ·rw[h3];exact h
     clear a8 bc aE am C;generalize nd (m+1) (me / 2 ^ (m+1))=X at *;have aY:(X:Int)<(N:Int):=by have:=aT.out;omega
     obtain⟨b,aJ,rfl,_,hc⟩:=HU.out.at X aT.out;obtain⟨pp,uu,hh,hn⟩:=hc X aT.out;have HW:Hid (jX t (me:Int) own X↔((ats t X).kind=2->(me:Int)∉(ats t X).un->(aZ own (X:Int)).length≠0)):=Iff.rfl;have A:=hn.kp (K1.out.trans KM.out);obtain⟨e0,e1,e2,e3,e4⟩:_/\_/\_/\_/\_:=⟨A.kind,A.name,A.pubC,A.unC,A.hashC⟩;have aH:=JE A.2.un;obtain⟨a1,n1,b1,rfl⟩:=aA A.2.pub;obtain⟨a2,aX,b2,rfl⟩:=A.2.un.sl;obtain⟨a3,n3,b3,rfl⟩:=aA A.2.hash;have be:Hid (∀ W,Kp wr W->W.cell? ⟨gp,op+m,none⟩=some (.int .i64 (X:Int))):=λW hW=>hW.cell c0
     clear hn A hc;generalize (ats t X).kind=KD at *;generalize (ats t X).name=NM at *;generalize (ats t X).un=UN at *;obtain⟨w5,aw⟩:∃ w5,wr.alloc (.cells #[.int .i64 KD,.int .i64 NM,.slice a1 n1 b1,.slice a2 aX b2,.slice a3 n3 b3] 81)=w5:=⟨_,rfl⟩;have hb:Bx w5 wr.heap.size 81 #[.int .i64 KD,.int .i64 NM,.slice a1 n1 b1,.slice a2 aX b2,.slice a3 n3 b3]:=by rw[<-aw];exact Oa wr _ _
     have K5:Hid (Kp wr w5):=by unfold Hid;rw[<-aw];exact(NQ _).alloc _
     have d0:=hb.cell 0;have d3:=hb.cell 3;simp only[JT,JS,JU] at d0 d3;have c5:=be.out w5 K5.out;have aU:=JE aw;have al:=JE (bb.out w5 _ UN (aH.out.kp K5.out));have au:=JE (ao.out w5 ((K1.out.trans KM.out).trans K5.out) (X:Int));have KF:=JE ((K1.out.trans KM.out).trans K5.out);have KG:=JE (KM.out.trans K5.out);clear hb aw bb aH be ao;by_cases U:KD=2
     ·subst U
      by_cases T:(me:Int)∈UN
      ·rw[Ke T] at al
       have u:=JE (d.out (HW.out.2 λ_ h=>absurd T h));clear d HW au T;go_wp2_with fail;rw[aU.out];refine al.out.mono ?_;rintro _ _ ⟨rfl,rfl⟩;go_wp2_with fail;go_roundw
       case rel=>exact⟨m+1,by omega,by go_num,u.out,KG.out⟩
       case measure=>simp[intOf];omega
      ·rw[Kb T] at al
       have aB:Hid (jX t (me:Int) own X↔(aZ own (X:Int)).length≠0):=⟨λh=>HW.out.1 h rfl T,λh=>HW.out.2 λ_ _=>h⟩;clear HW T;go_wp2_with fail;rw[aU.out];refine al.out.mono ?_;rintro _ _ ⟨rfl,rfl⟩;go_wp2_with fail;refine au.out.mono ?_;rintro _ _ ⟨⟨r,rfl,F⟩,rfl⟩;generalize aZ own (X:Int)=Z at *;obtain⟨ar,cr,rfl,_,_⟩:=F.shape;clear F;by_cases h0:Z.length=0
       ·have u:=JE (Y.out λh=>(aB.out.1 h) h0)
        have bk:(Z.length:Int)=0:=by omega
        have ax:((Z.length:Int)==0)=true:=by rw[bk];rfl
        clear aB d Y h0;go_wp2_with fail;go_ret;exact⟨Oi u.out,KF.out⟩
       ·have u:=JE (d.out (aB.out.2 h0))
        have ax:((Z.length:Int)==0)=false:=JL.2 (by omega);have bp:¬(Z.length:Int)=0:=by omega
        clear aB d Y;go_wp2_with fail;go_roundw
        case rel=>exact⟨m+1,by omega,by go_num,u.out,KG.out⟩
        case measure=>simp[intOf];omega
     ·have u:=JE (d.out (HW.out.2 λh=>absurd h U))
      have ax:(KD==2)=false:=JL.2 U;clear d HW au al;go_wp2_with fail;rw[aU.out] at *;go_roundw
      case rel=>exact⟨m+1,by omega,by go_num,u.out,KG.out⟩
      case measure=>simp[intOf];omega
    ·obtain rfl:m=K:=by omega
     have aS:=JE (ba.out C.out);have au:=JE (ao.out wr (K1.out.trans KM.out) (M2:Int));have KF:=JE (K1.out.trans KM.out);clear aE am ba C ao;go_wp2_with fail;refine au.out.mono ?_;rintro _ _ ⟨⟨r,rfl,F⟩,rfl⟩;generalize aZ own (M2:Int)=Z at *;obtain⟨ar,cr,rfl,_,_⟩:=F.shape;clear F;by_cases h0:Z.length=0
     ·have u:=JE (Q.out h0)
      have h4:¬(0:Int)<(Z.length:Int):=by omega
      have h5:decide ((0:Int)<(Z.length:Int))=false:=Kb h4;clear Q aS;go_wp2_with fail;go_ret;exact⟨Oi u.out,KF.out⟩
     ·have u:=JE (aS.out h0)
      have h4:(0:Int)<(Z.length:Int):=by omega
      have h5:decide ((0:Int)<(Z.length:Int))=true:=Ke h4;clear Q aS;have HT:Hid (aK (Ending.returned (.bool (decide (0<Z.length)))) P):=by unfold Hid;rw[Ke (by omega:0<Z.length)];exact aK.yes u.out
      clear h4 h5;go_wp2_with fail;go_ret;exact⟨HT.out,KF.out⟩
theorem IW (aa v:Value)(t:List Nod)(K:Nat)(me:Int)(own:List Sd)(w:World)(g:NL w aa t)(h:aD t K)(i:SL w v own)(j:own.length<=100000):
  Calls prog 17 #[aa,.int .i64 me,v] w λe w'=>aK e (bZ t K me own)/\Kp w w':=by
 obtain⟨n,m,l⟩:=h.small;by_cases b:bc t me
 ·obtain⟨k,rfl,q,d,o⟩:=ju h b
  exact IV aa v t K k own w g h i d j
 ·have f:=JE (ox aa t me w g (by omega))
  rw[Kb b] at f;have p:Hid (¬bZ t K me own):=λe=>b e.1
  generalize bZ t K me own=P at *;obtain⟨a,c,rfl,_,_⟩:=g.shape;obtain⟨s,r,rfl,_,_⟩:=i.shape;generalize t.length=N at *;clear g h i b n m l;go_enter func17,ntmps17;go_wp2_with fail;refine f.out.mono ?_;rintro _ _ ⟨rfl,rfl⟩;go_wp2_with fail;go_ret;exact⟨Oi p.out,NQ _⟩
theorem Jj (x y I r:Value)(a b:Se)(w:World)(M:Rd w x a.half)(L:Rd w y a.b)(K:Rd w I b.half)(J:Rd w r b.b):
  Calls prog 97 #[.agg #[x,y],.agg #[I,r]] w λe w'=>aK e (a=b)/\Kp w w':=by
 have l:=JE (λW (n:Kp w W)=>mf x I a.half b.half W (M.kp n) (K.kp n));have O:Hid (∀ W,Kp w W->Calls prog 52 #[y,r] W λe w'=>aK e (a.b=b.b)/\Kp W w'):=λW n=>(mf y r a.b b.b W (L.kp n) (J.kp n)).mono λe w' h=>⟨⟨_,h.1,decide_eq_true_iff⟩,h.2⟩
 have i:Hid (a.half≠b.half->¬a=b):=λh e=>h (by rw[e])
 have g:Hid (¬a.b=b.b->¬a=b):=λh e=>h (by rw[e])
 have N:Hid (a.half=b.half->a.b=b.b->a=b):=Se.ext';obtain⟨G,v,C,rfl⟩:=aA M;obtain⟨E,t,A,rfl⟩:=aA K;obtain⟨F,u,B,rfl⟩:=aA L;obtain⟨D,s,z,rfl⟩:=aA J;generalize (a=b)=P at *;generalize (a.b=b.b)=P2 at *;generalize a.half=X at *;generalize b.half=V at *;clear M L K J;by_cases q:X=V
 ·rw[Ke q] at l
  have p:=JE (N.out q);clear i N q;go_enter func97,ntmps97;go_wp2_with fail;obtain⟨d,c⟩:∃ d,(w.alloc (.cells #[.slice G v C,.slice F u B] 92)).alloc (.cells #[.slice E t A,.slice D s z] 92)=d:=⟨_,rfl⟩;have k:Bx d w.heap.size 92 #[.slice G v C,.slice F u B]:=by rw[<-c];exact(Oa w _ _).kp ((NQ _).alloc _)
  have m:Bx d (w.heap.size+1) 92 #[.slice E t A,.slice D s z]:=by
   rw[<-c];have:=Oa (w.alloc (.cells #[.slice G v C,.slice F u B] 92)) 92 #[.slice E t A,.slice D s z];rwa [JY] at this
  have o:Hid (Kp w d):=by unfold Hid;rw[<-c];exact((NQ _).alloc _).alloc _
  have j:=JE (JN k m);rw[c];clear k m c;refine(l.out d o.out).mono ?_;rintro _ w2 ⟨rfl,f⟩;have H:=JE (o.out.trans f);have S:=(j.out.1.kp f).cell 1;have R:=(j.out.2.kp f).cell 1;simp only[JT,JS,JU] at S R;clear f l j;go_wp2_with fail;refine(O.out w2 H.out).mono ?_;rintro _ w3 ⟨⟨T,rfl,k⟩,Q⟩;have HB:Hid (T=true↔P):=⟨λh=>p.out (k.1 h),λh=>k.2 (Ln.1 λU=>g.out U h)⟩;have Y:=JE (H.out.trans Q);clear k Q p g S R O;go_wp2_with fail;go_ret;exact⟨⟨T,rfl,HB.out⟩,Y.out⟩
 ·rw[Kb q] at l
  have Z:=JE (i.out q);clear i g N O q;go_enter func97,ntmps97;go_wp2_with fail;obtain⟨d,c⟩:∃ d,(w.alloc (.cells #[.slice G v C,.slice F u B] 92)).alloc (.cells #[.slice E t A,.slice D s z] 92)=d:=⟨_,rfl⟩;have o:Hid (Kp w d):=by unfold Hid;rw[<-c];exact((NQ _).alloc _).alloc _
  rw[c];clear c;refine(l.out d o.out).mono ?_;rintro _ w2 ⟨rfl,f⟩;have H:=JE (o.out.trans f);clear f l;go_wp2_with fail;go_ret;exact⟨Oi Z.out,H.out⟩
theorem Jk (aa v:Value)(t s:List Se)(w:World)(D:EL w aa t)(C:EL w v s):
  Calls prog 96 #[aa,v,.func (.func 97) #[] #[]] w λe w'=>aK e (t=s)/\Kp w w':=by
 obtain⟨a1,c1,rfl,p1,B⟩:=Ob D;obtain⟨a2,c2,rfl,p2,A⟩:=Ob C;unfold maxLen at B A;by_cases a:t.length=s.length
 ·have l:Hid (∀ k,k<t.length->¬aH t k=aH s k->¬t=s):=λk hk m h=>m (by rw[h])
  have d:Hid ((∀ k,k<t.length->aH t k=aH s k)->t=s):=λh=>zv a h
  have X:=JE D;have S:=JE C;rw[<-a] at S p2 ⊢;obtain⟨N,G⟩:∃ N,t.length=N:=⟨_,rfl⟩;have H:=JE G;have z:Hid (s.length=N):=a.symm.trans G;rw[G] at X S p1 p2 l d ⊢;generalize (t=s)=EQ at *;have HS:=JE (JN B A);clear D C a G B A;go_enter func96,ntmps96;go_wp2_with fail;go_loopw[17] (λi wr=>∃ k:Nat,k<=N/\i=.int .i64 (k:Int)/\(∀ j,j<k->aH t j=aH s j)/\Kp w wr) (λi _=>(N - (intOf i).toNat))
  case atStart=>exact⟨0,JW _,rfl,λt h=>by omega,NQ _⟩
  case round=>
   obtain⟨k,hk,rfl,c,b⟩:=hrel;by_cases n:k<N
   ·obtain⟨g1,o1,d1,x1,y1,J,_,q⟩:=EL.nodeK (i:=k) X.out (by rw[H.out];exact n)
    obtain⟨g2,o2,d2,x2,y2,I,_,o⟩:=EL.nodeK (i:=k) S.out (by rw[z.out];exact n);rw[H.out] at J;rw[z.out] at I;simp only[JR] at J I;obtain⟨rfl,_,rfl⟩:=J;obtain⟨rfl,_,rfl⟩:=I;obtain⟨y,x,O,M⟩:=q wr b;obtain⟨Z,na,ca,rfl⟩:=aA O;obtain⟨Y,nb,cb,rfl⟩:=aA M;obtain⟨_,_,L,K⟩:=o wr b;obtain⟨xc,nc,cc,rfl⟩:=aA L;obtain⟨xd,ab,cd,rfl⟩:=aA K;obtain⟨u,r,_,_⟩:=o (wr.alloc (.cells #[.slice Z na ca,.slice Y nb cb] 92)) (b.alloc _);have T:=JE (λW (F:Kp wr W)=>Jj _ _ _ _ (aH t k) (aH s k) W (O.kp F) (M.kp F) (L.kp F) (K.kp F));have g:=l.out k n;have f:Hid (aH t k=aH s k->∀ j,j<k+1->aH t j=aH s j):=λhe j hj=>by
     rcases Kh (Kr.1 hj) with Q|Q
     ·exact c j Q
     ·rw[Q];exact he
    have i1:IntKind.i64.wrap ((k:Int)+1)=(k:Int)+1:=JI _ (by have:=HS.out;omega);have i2:(k:Int)<(N:Int):=by omega
    have R:=JE b;clear q o d l c b O M L K;generalize (aH t k=aH s k)=PE at *;go_wp2_with fail;refine(T.out _ (((NQ _).alloc _).alloc _)).mono ?_;rintro _ w9 ⟨⟨bb,rfl,E⟩,P⟩;have V:=JE (R.out.trans ((((NQ _).alloc _).alloc _).trans P));cases bb
    ·have p:=JE (g λh=>by cases E.2 h)
     clear f g E P T y x u r;go_wp2_with fail;go_ret;exact⟨Oi p.out,V.out⟩
    ·have p:=JE (f.out (E.1 rfl))
     clear f g E P T y x u r;go_wp2_with fail;go_roundw
     case rel=>exact⟨k+1,by omega,by first|rfl|(rw[i1];rfl),p.out,V.out⟩
     case measure=>simp[intOf];omega
   ·obtain rfl:k=N:=by omega
    have HB:=JE (d.out c);have R:=JE b;have i2:¬(k:Int)<(k:Int):=by omega
    clear d l c b;go_wp2_with fail;go_ret;exact⟨aK.yes HB.out,R.out⟩
 ·have m:¬(t.length:Int)=(s.length:Int):=by omega
  have U:((t.length:Int) != (s.length:Int))=true:=Lt.2 m;have H:Hid (¬t=s):=λh=>a (by rw[h])
  clear D C a B A;go_enter func96,ntmps96;go_wp2_with fail;go_ret;exact⟨Oi H.out,NQ _⟩
theorem Jl (x y I r:Value)(a b:St)(w:World)(M:Rd w x a.pub)(L:EL w y a.fors)(K:Rd w I b.pub)(J:EL w r b.fors):
  Calls prog 54 #[.agg #[x,y],.agg #[I,r]] w λe w'=>aK e (a=b)/\Kp w w':=by
 have l:=JE (λW (n:Kp w W)=>mf x I a.pub b.pub W (M.kp n) (K.kp n));have O:Hid (∀ W,Kp w W->Calls prog 96 #[y,r,.func (.func 97) #[] #[]] W λe w'=>aK e (a.fors=b.fors)/\Kp W w'):=λW n=>Jk y r a.fors b.fors W (Od L n) (Od J n)
 have i:Hid (a.pub≠b.pub->¬a=b):=λh e=>h (by rw[e])
 have g:Hid (¬a.fors=b.fors->¬a=b):=λh e=>h (by rw[e])
 have N:Hid (a.pub=b.pub->a.fors=b.fors->a=b):=St.ext';obtain⟨G,v,C,rfl⟩:=aA M;obtain⟨E,t,A,rfl⟩:=aA K;obtain⟨F,u,B,rfl⟩:=Oc L;obtain⟨D,s,z,rfl⟩:=Oc J;generalize (a=b)=P at *;generalize (a.fors=b.fors)=P2 at *;generalize a.pub=X at *;generalize b.pub=V at *;clear M L K J;by_cases q:X=V
 ·rw[Ke q] at l
  have p:=JE (N.out q);clear i N q;go_enter func54,ntmps54;go_wp2_with fail;obtain⟨d,c⟩:∃ d,(w.alloc (.cells #[.slice G v C,.slice F u B] 74)).alloc (.cells #[.slice E t A,.slice D s z] 74)=d:=⟨_,rfl⟩;have k:Bx d w.heap.size 74 #[.slice G v C,.slice F u B]:=by rw[<-c];exact(Oa w _ _).kp ((NQ _).alloc _)
  have m:Bx d (w.heap.size+1) 74 #[.slice E t A,.slice D s z]:=by
   rw[<-c];have:=Oa (w.alloc (.cells #[.slice G v C,.slice F u B] 74)) 74 #[.slice E t A,.slice D s z];rwa [JY] at this
  have o:Hid (Kp w d):=by unfold Hid;rw[<-c];exact((NQ _).alloc _).alloc _
  have j:=JE (JN k m);rw[c];clear k m c;refine(l.out d o.out).mono ?_;rintro _ w2 ⟨rfl,f⟩;have H:=JE (o.out.trans f);have S:=(j.out.1.kp f).cell 1;have R:=(j.out.2.kp f).cell 1;simp only[JT,JS,JU] at S R;clear f l j;go_wp2_with fail;refine(O.out w2 H.out).mono ?_;rintro _ w3 ⟨⟨T,rfl,k⟩,Q⟩;have HB:Hid (T=true↔P):=⟨λh=>p.out (k.1 h),λh=>k.2 (Ln.1 λU=>g.out U h)⟩;have Y:=JE (H.out.trans Q);clear k Q p g S R O;go_wp2_with fail;go_ret;exact⟨⟨T,rfl,HB.out⟩,Y.out⟩
 ·rw[Kb q] at l
  have Z:=JE (i.out q);clear i g N O q;go_enter func54,ntmps54;go_wp2_with fail;obtain⟨d,c⟩:∃ d,(w.alloc (.cells #[.slice G v C,.slice F u B] 74)).alloc (.cells #[.slice E t A,.slice D s z] 74)=d:=⟨_,rfl⟩;have o:Hid (Kp w d):=by unfold Hid;rw[<-c];exact((NQ _).alloc _).alloc _
  rw[c];clear c;refine(l.out d o.out).mono ?_;rintro _ w2 ⟨rfl,f⟩;have H:=JE (o.out.trans f);clear f l;go_wp2_with fail;go_ret;exact⟨Oi Z.out,H.out⟩
theorem Jm (aa v:Value)(t s:List St)(w:World)(D:dl w aa t)(C:dl w v s):
  Calls prog 53 #[aa,v,.func (.func 54) #[] #[]] w λe w'=>aK e (t=s)/\Kp w w':=by
 obtain⟨a1,c1,rfl,p1,B⟩:=Ob D;obtain⟨a2,c2,rfl,p2,A⟩:=Ob C;unfold maxLen at B A;by_cases a:t.length=s.length
 ·have l:Hid (∀ k,k<t.length->¬am t k=am s k->¬t=s):=λk hk m h=>m (by rw[h])
  have d:Hid ((∀ k,k<t.length->am t k=am s k)->t=s):=λh=>zu a h
  have X:=JE D;have S:=JE C;rw[<-a] at S p2 ⊢;obtain⟨N,G⟩:∃ N,t.length=N:=⟨_,rfl⟩;have H:=JE G;have z:Hid (s.length=N):=a.symm.trans G;rw[G] at X S p1 p2 l d ⊢;generalize (t=s)=EQ at *;have HS:=JE (JN B A);clear D C a G B A;go_enter func53,ntmps53;go_wp2_with fail;go_loopw[17] (λi wr=>∃ k:Nat,k<=N/\i=.int .i64 (k:Int)/\(∀ j,j<k->am t j=am s j)/\Kp w wr) (λi _=>(N - (intOf i).toNat))
  case atStart=>exact⟨0,JW _,rfl,λt h=>by omega,NQ _⟩
  case round=>
   obtain⟨k,hk,rfl,c,b⟩:=hrel;by_cases n:k<N
   ·obtain⟨g1,o1,d1,x1,y1,J,_,q⟩:=dl.nodeK (i:=k) X.out (by rw[H.out];exact n)
    obtain⟨g2,o2,d2,x2,y2,I,_,o⟩:=dl.nodeK (i:=k) S.out (by rw[z.out];exact n);rw[H.out] at J;rw[z.out] at I;simp only[JR] at J I;obtain⟨rfl,_,rfl⟩:=J;obtain⟨rfl,_,rfl⟩:=I;obtain⟨y,x,O,M⟩:=q wr b;obtain⟨Z,na,ca,rfl⟩:=aA O;obtain⟨Y,nb,cb,rfl⟩:=Oc M;obtain⟨_,_,L,K⟩:=o wr b;obtain⟨xc,nc,cc,rfl⟩:=aA L;obtain⟨xd,ab,cd,rfl⟩:=Oc K;obtain⟨u,r,_,_⟩:=o (wr.alloc (.cells #[.slice Z na ca,.slice Y nb cb] 74)) (b.alloc _);have T:=JE (λW (F:Kp wr W)=>Jl _ _ _ _ (am t k) (am s k) W (O.kp F) (Od M F) (L.kp F) (Od K F));have g:=l.out k n;have f:Hid (am t k=am s k->∀ j,j<k+1->am t j=am s j):=λhe j hj=>by
     rcases Kh (Kr.1 hj) with Q|Q
     ·exact c j Q
     ·rw[Q];exact he
    have i1:IntKind.i64.wrap ((k:Int)+1)=(k:Int)+1:=JI _ (by have:=HS.out;omega);have i2:(k:Int)<(N:Int):=by omega
    have R:=JE b;clear q o d l c b O M L K;generalize (am t k=am s k)=PE at *;go_wp2_with fail;refine(T.out _ (((NQ _).alloc _).alloc _)).mono ?_;rintro _ w9 ⟨⟨bb,rfl,E⟩,P⟩;have V:=JE (R.out.trans ((((NQ _).alloc _).alloc _).trans P));cases bb
    ·have p:=JE (g λh=>by cases E.2 h)
     clear f g E P T y x u r;go_wp2_with fail;go_ret;exact⟨Oi p.out,V.out⟩
    ·have p:=JE (f.out (E.1 rfl))
     clear f g E P T y x u r;go_wp2_with fail;go_roundw
     case rel=>exact⟨k+1,by omega,by first|rfl|(rw[i1];rfl),p.out,V.out⟩
     case measure=>simp[intOf];omega
   ·obtain rfl:k=N:=by omega
    have HB:=JE (d.out c);have R:=JE b;have i2:¬(k:Int)<(k:Int):=by omega
    clear d l c b;go_wp2_with fail;go_ret;exact⟨aK.yes HB.out,R.out⟩
 ·have m:¬(t.length:Int)=(s.length:Int):=by omega
  have U:((t.length:Int) != (s.length:Int))=true:=Lt.2 m;have H:Hid (¬t=s):=λh=>a (by rw[h])
  clear D C a B A;go_enter func53,ntmps53;go_wp2_with fail;go_ret;exact⟨Oi H.out,NQ _⟩
theorem Jn (x y I r:Value)(a b:Pa)(w:World)(M:Rd w x a.pub)(L:dl w y a.step)(K:Rd w I b.pub)(J:dl w r b.step):
  Calls prog 18 #[.agg #[x,y],.agg #[I,r]] w λe w'=>aK e (a=b)/\Kp w w':=by
 have l:=JE (λW (n:Kp w W)=>mf x I a.pub b.pub W (M.kp n) (K.kp n));have O:Hid (∀ W,Kp w W->Calls prog 53 #[y,r,.func (.func 54) #[] #[]] W λe w'=>aK e (a.step=b.step)/\Kp W w'):=λW n=>Jm y r a.step b.step W (Od L n) (Od J n)
 have i:Hid (a.pub≠b.pub->¬a=b):=λh e=>h (by rw[e])
 have g:Hid (¬a.step=b.step->¬a=b):=λh e=>h (by rw[e])
 have N:Hid (a.pub=b.pub->a.step=b.step->a=b):=Pa.ext';obtain⟨G,v,C,rfl⟩:=aA M;obtain⟨E,t,A,rfl⟩:=aA K;obtain⟨F,u,B,rfl⟩:=Oc L;obtain⟨D,s,z,rfl⟩:=Oc J;generalize (a=b)=P at *;generalize (a.step=b.step)=P2 at *;generalize a.pub=X at *;generalize b.pub=V at *;clear M L K J;by_cases q:X=V
 ·rw[Ke q] at l
  have p:=JE (N.out q);clear i N q;go_enter func18,ntmps18;go_wp2_with fail;obtain⟨d,c⟩:∃ d,(w.alloc (.cells #[.slice G v C,.slice F u B] 27)).alloc (.cells #[.slice E t A,.slice D s z] 27)=d:=⟨_,rfl⟩;have k:Bx d w.heap.size 27 #[.slice G v C,.slice F u B]:=by rw[<-c];exact(Oa w _ _).kp ((NQ _).alloc _)
  have m:Bx d (w.heap.size+1) 27 #[.slice E t A,.slice D s z]:=by
   rw[<-c];have:=Oa (w.alloc (.cells #[.slice G v C,.slice F u B] 27)) 27 #[.slice E t A,.slice D s z];rwa [JY] at this
  have o:Hid (Kp w d):=by unfold Hid;rw[<-c];exact((NQ _).alloc _).alloc _
  have j:=JE (JN k m);rw[c];clear k m c;refine(l.out d o.out).mono ?_;rintro _ w2 ⟨rfl,f⟩;have H:=JE (o.out.trans f);have S:=(j.out.1.kp f).cell 1;have R:=(j.out.2.kp f).cell 1;simp only[JT,JS,JU] at S R;clear f l j;go_wp2_with fail;refine(O.out w2 H.out).mono ?_;rintro _ w3 ⟨⟨T,rfl,k⟩,Q⟩;have HB:Hid (T=true↔P):=⟨λh=>p.out (k.1 h),λh=>k.2 (Ln.1 λU=>g.out U h)⟩;have Y:=JE (H.out.trans Q);clear k Q p g S R O;go_wp2_with fail;go_ret;exact⟨⟨T,rfl,HB.out⟩,Y.out⟩
 ·rw[Kb q] at l
  have Z:=JE (i.out q);clear i g N O q;go_enter func18,ntmps18;go_wp2_with fail;obtain⟨d,c⟩:∃ d,(w.alloc (.cells #[.slice G v C,.slice F u B] 27)).alloc (.cells #[.slice E t A,.slice D s z] 27)=d:=⟨_,rfl⟩;have o:Hid (Kp w d):=by unfold Hid;rw[<-c];exact((NQ _).alloc _).alloc _
  rw[c];clear c;refine(l.out d o.out).mono ?_;rintro _ w2 ⟨rfl,f⟩;have H:=JE (o.out.trans f);clear f l;go_wp2_with fail;go_ret;exact⟨Oi Z.out,H.out⟩
theorem zE (x y b a:Value)(p q:Pa)(w:World)(d:PIn w x y p)(c:PIn w b a q):
 Calls prog 18 #[.agg #[x,y],.agg #[b,a]] w λe w'=>aK e (p=q)/\Kp w w':=Jn x y b a p q w d.pub d.step c.pub c.step

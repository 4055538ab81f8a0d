import Derived.Test.YthmhklmkgkfcpaaGreatDoorX22
set_option linter.all false
set_option maxHeartbeats 8000000
set_option maxRecDepth 100000
namespace Go.Proofs.YthmhklmkgkfcpaaGreatDoor
open Go.Proofs.Tryz Go.RowKit
variable {A B w:World}{Y:Nat->Prop}{f:List Se}{j:Nat}{l:List Nat}{s:Sd}{t:List Nod}{who:List Int}
theorem Hx:(prog.info? 90).map (·.size)=some 2:=by kernel_rfl
theorem tl {g:Nat}{T:TypeId}{l j:Value}(i:Bx w g T #[l,j])(b a:Value):
  Bx ((w.setCell ⟨g,0,none⟩ b).setCell ⟨g,1,none⟩ a) g T #[b,a]/\az (λk=>k=g) w ((w.setCell ⟨g,0,none⟩ b).setCell ⟨g,1,none⟩ a)/\∀ w0,Kp w0 w->w0.heap.size<=g->Kp w0 ((w.setCell ⟨g,0,none⟩ b).setCell ⟨g,1,none⟩ a):=by
 have c:=gI w g 0 [b,a] 0;exact⟨i.fill #[b,a] rfl,⟨c.os,c.tape,c.output,c.size,λq d f=>c.block q d λe=>f (by cases e;rfl)⟩,λw0 k h=>k.setCells h [b,a] 0⟩
theorem zf (x:Int)(q vs:Value)(c:List Int)(s:List UInt8)(w:World)(K:RI w q c)(z:Rd w vs s)(L:s.length<=2000):
  Calls prog 59 #[.agg #[.int .i64 x,q],vs] w λe w'=>(∃ v,e=.returned (.agg #[.int .i64 x,v])/\Rd w' v (bH s eI)/\ba w.heap.size v)/\Kp w w':=by
 have Z:=JE (λW (U:Kp w W)=>yE vs ⟨#[110,111,100,101]⟩ s W (z.kp U) (by decide) L);obtain⟨D,u,B,rfl⟩:=K.sl;obtain⟨X,T,V,rfl⟩:=aA z;clear K z L;go_enter func59,ntmps59;go_wp2_with fail;obtain⟨h,b⟩:∃ h,(w.alloc (.cells #[.int .i64 x,.slice D u B] 99)).alloc (.cells #[.int .i64 0,.slice none 0 0] 90)=h:=⟨_,rfl⟩;have A:Bx h w.heap.size 99 #[.int .i64 x,.slice D u B]:=by rw[<-b];exact(Oa w _ _).kp ((NQ _).alloc _)
 have f:Hid (Bx h (w.heap.size+1) 90 #[.int .i64 0,.slice none 0 0]):=by
  unfold Hid;have:=Oa (w.alloc (.cells #[.int .i64 x,.slice D u B] 99)) 90 #[.int .i64 0,.slice none 0 0];rw[JY] at this;rw[<-b];exact this
 have E:Hid (Kp w h):=by unfold Hid;rw[<-b];exact((NQ _).alloc _).alloc _
 have o:Hid (w.heap.size+1<h.heap.size):=(JK.1 f.out).1;have HB:=JE A;have R:=A.cell 0;simp only[JT,JS,JU] at R;rw[b];clear A b;go_region_with (first
  | (go_at_call 104;refine(Z.out _ (by first|exact E.out|exact E.out.drew)).mono ?_;rintro _ t ⟨⟨r9,rfl,r⟩,H⟩;have j:Hid (Kp h t):=(NQ _).drew.trans H;obtain⟨m,a,l,rfl⟩:=aA r.rd;have Y:Hid (Rd t (.slice m a l) (bH s eI)):=r.rd;have S:Hid (ba h.heap.size (.slice m a l)):=(λg M=>(KU r g M).1);have Q:=(HB.out.kp j.out).cell 0;have i:=(f.out.kp j.out).there;have J:=(f.out.kp j.out).cell 0;have I:=(f.out.kp j.out).cell 1;have O:=(i 0 (by decide)).2;have N:=(i 1 (by decide)).2;clear i;rw[Lf] at O N;simp only[JT,JS,JU] at Q J I))
 all_goals (
  clear R Q J I O N r H;have d:=tl (f.out.kp j.out) (.int .i64 x) (.slice m a l);obtain⟨G,k⟩:∃ y,(t.setCell ⟨w.heap.size+1,0,none⟩ (.int .i64 x)).setCell ⟨w.heap.size+1,1,none⟩ (.slice m a l)=y:=⟨_,rfl⟩;rw[k] at d ⊢;have F:=JE d;have p:Hid (Rd G (.slice m a l) (bH s eI)):=Y.out.stepF d.2.1 (dZ (C:=h.heap.size) S.out λg M=>by have:=o.out;omega);have n:Hid (Kp w G):=d.2.2 w (E.out.trans j.out) (Mh _);clear d k;go_wp2_with fail;refine bodyPost_ret (results_cell_row (P:=prog) rfl _ _ (w.heap.size+1) _ _ (0,0) _ rfl F.out.1 underlying90 rfl Hx) rfl ?_;exact⟨⟨_,rfl,p.out,S.out.mono (by have:=o.out;omega)⟩,n.out⟩)
section
open Go.Maps
theorem fT:Keyed prog 3:=int_keyed underlying3
theorem kR (w:World):(zeroValue 90).run prog w=.ok (.agg #[.int .i64 0,.slice none 0 0]) w:=by kernel_rfl
theorem Hy (n:Int)(w:World):(Instr.makeMap 103 (some (.int .i64 n))).run prog w=.ok (.map (some w.heap.size)) (w.alloc (.map #[] 0)):=by
 simp[Instr.makeMap,run_underlying underlying103,asInt,Result.andThen,newObj];rfl
theorem Hz {own:List Sd}(h:srt own)(b:j<own.length)(y:Sd):y∈own.take (j+1)↔(y=aG own j\/(y∈own.take j/\y.node≠(aG own j).node)):=by
 rw[JZ b,<-eV b,Le,Lz];have c:y∈own.take j->y.node<(aG own j).node:=λd=>by
  obtain⟨k,f,e⟩:=Ld d;rw[Ki] at f;have:=Lc.1 h k j (by omega) b (by omega);rw[MG] at e;rw[eV b,<-e];exact this
 constructor
 ·rintro (a|a)
  ·exact .inr ⟨a,λe=>by have:=c a;omega⟩
  ·exact .inl a
 ·rintro (a|a)
  ·exact .inr a
  ·exact .inl a.1
theorem tq (v:Value)(own:List Sd)(w:World)(E:SL w v own)(R:srt own)(hl:own.length<=100000)(Q:∀ k,k<own.length->-9223372036854775808<=(aG own k).node/\(aG own k).node<=9223372036854775807):
  Calls prog 44 #[v] w λe w'=>(e=.returned (.map (some w.heap.size))/\KM prog 3 w' w.heap.size own.length (λy=>y∈own))/\Kp w w':=by
 have F:=Hy;have U:=JE E;obtain⟨a,c,rfl,_,_⟩:=Ob E;have h:=JE (λj (hj:j<own.length) y=>Hz R hj y);have g:=JE Q;have p:Hid (own.take own.length=own):=Kz;obtain⟨N,H⟩:∃ N,own.length=N:=⟨_,rfl⟩;have W:=JE H;rw[H] at U h g p hl ⊢;clear E R Q H;go_enter func44,ntmps44;go_wp2_with fail;obtain⟨D,f⟩:∃ D,w.alloc (.map #[] 0)=D:=⟨_,rfl⟩;have r:KM prog 3 D w.heap.size 0 (λy=>y∈own.take 0):=by
  rw[<-f];exact(KM.made w prog 3).congr λs=>by simp
 have u:Kp w D:=by rw[<-f];exact(NQ _).alloc _
 rw[f];clear f F;have H0:=JE (JN r u);clear r u;go_loopw[11] (λx wr=>∃ i:Nat,i<=N/\x=.int .i64 (i:Int)/\KM prog 3 wr w.heap.size i (λy=>y∈own.take i)/\Kp w wr) (λx _=>(N - (intOf x).toNat))
 case atStart=>exact⟨0,JW _,rfl,H0.out⟩
 case round=>
  obtain⟨i,hi,rfl,A,b⟩:=hrel;have HR:=JE (JN A b);by_cases o:i<N
  ·obtain⟨g1,o1,c1,q1,I,_,q⟩:=SL.nodeK (i:=i) U.out (by rw[W.out];exact o)
   rw[W.out] at I;simp only[JR] at I;obtain⟨rfl,_,rfl⟩:=I;obtain⟨d0,d1,J⟩:=q wr b;obtain⟨C,z,B,rfl⟩:=aA J;have X:=JE J;have V:=JE (h.out i o);obtain⟨P,O⟩:=g.out i o;have i1:IntKind.i64.wrap ((i:Int)+1)=(i:Int)+1:=JI _ (by omega);have i3:(i:Int)<(N:Int):=by omega
   generalize G:aG own i=SD at *;clear G;obtain⟨l,S⟩:=SD;dsimp only at d0 d1 X V P O
   have t:Go.keyOf prog 3 (.int .i64 l)=some (.int .i64 l):=keyOf_int_mk underlying3 (Mf (by omega));have hn:i<maxLen:=by unfold maxLen;omega
   have K:Hid (KM prog 3 (wr.alloc (.cells #[.int .i64 l,.slice C z B] 90)) w.heap.size i (λy=>y∈own.take i)):=A.kp ((NQ _).alloc _);have L:Hid (gW (wr.alloc (.cells #[.int .i64 l,.slice C z B] 90)) (.agg #[.int .i64 l,.slice C z B]) ⟨l,S⟩):=⟨_,rfl,X.out.kp ((NQ _).alloc _)⟩;have T:Hid (Kp w (wr.alloc (.cells #[.int .i64 l,.slice C z B] 90))):=b.alloc _;clear q b A J h g p P O;go_wp2_with(at_mapUpdate;go_loud (refine Ep (e:=90) rfl _ _ _ 103 rfl fT underlying103 rfl K.out hn ⟨l,S⟩ _ rfl rfl t L.out ?_;intro Y n d))
   have m:KM prog 3 Y w.heap.size (i+1) (λy=>y∈own.take (i+1)):=n.congr λy=>V.out y
   go_roundw
   case rel=>exact⟨i+1,by omega,by first|rfl|(rw[i1];rfl),m,Below.grown T.out d T.out.size (λk hk=>by cases hk;exact JO _)⟩
   case measure=>simp[intOf];omega
  ·obtain rfl:i=N:=by omega
   have aa:¬(i:Int)<(i:Int):=by omega
   clear A b h g;go_wp2_with fail;go_ret;obtain⟨M,Z⟩:=HR.out;rw[p.out] at M;exact⟨⟨rfl,M⟩,Z⟩
end
structure eo (w:World)(gc gs:Nat)(secret:List UInt8)(n:Nat):Prop where
 mk ::
 cnt:Bx w gc 3 #[.int .i64 (n:Int)]
 sec:∃ v,Bx w gs 24 #[v]/\RZ (λg=>g=gc) w v secret
 ne:gc≠gs
theorem eo.kp {w':World}{gc a n:Nat}{s:List UInt8}(h:eo w gc a s n)(k:Kp w w'):eo w' gc a s n:=by
 obtain⟨e,⟨v,d,c⟩,b⟩:=h;exact⟨e.kp k,⟨v,d.kp k,c.kp k⟩,b⟩
theorem Ih (gc i n:Nat)(secret:List UInt8)(w:World)(h:eo w gc i secret n)(P:n<1000000)(Q:secret.length<=2000):
  Calls prog 99 #[.pointer (some ⟨gc,0,none⟩),.pointer (some ⟨i,0,none⟩)] w λe w'=>(∃ v,e=.returned v/\Rd w' v (eD secret n)/\ba w.heap.size v)/\eo w' gc i secret (n+1)/\az (λg=>g=gc) w w':=by
 obtain⟨o,⟨v,G,F⟩,k⟩:=h;have m:=JE (λW=>kr (n:Int) 4 W (by omega));rw[Em (by omega)] at m;have y:=JE (λW (M:Value) (Y:Rd W v secret) (o:Rd W M (be 4 n))=>pq v ⟨#[111,110,99,101]⟩ M secret (be 4 n) 32 W Y o (by decide) (by rw[bq];omega) Q (by omega));obtain⟨t,p,s,rfl⟩:=aA F.1;have U:=JE o;have L:=JE G;have T:=JE F;have R:=o.cell 0;simp only[JT,JS] at R;have i1:IntKind.i64.wrap ((n:Int)+1)=((n+1:Nat):Int):=by rw[JI _ (by omega)];omega
 generalize jh (n:Int) 4=NE at *;have r:Hid (gc<w.heap.size/\i<w.heap.size):=⟨(JK.1 o).1,(JK.1 G).1⟩;clear o G F Q;go_enter func99,ntmps99;go_wp2_with fail;refine(m.out w).mono ?_;rintro _ z ⟨v1,rfl,E,f⟩;obtain⟨a1,X,c1,rfl⟩:=aA E.rd;have S:=JE (JN E f);have d:=U.out.kp f;have d0:=d.cell 0;have d1:=d.frozen 0;simp only[JT,JS] at d0;obtain⟨w2,c⟩:∃ x,z.setCell ⟨gc,0,none⟩ (.int .i64 ((n:Int)+1))=x:=⟨_,rfl⟩;have b:az (λg=>g=gc) z w2:=by rw[<-c];exact(NU _ _).setCell _ _ (.inr rfl)
 have l:=(L.out.kp f).cell 0;simp only[JT,JS] at l;have Z:(z.setCell ⟨gc,0,none⟩ (.int .i64 ((n:Int)+1))).cell? ⟨i,0,none⟩=some (.slice t p s):=by rw[c];exact b.cell l (λe=>k e.symm)
 have J:Hid (Bx w2 gc 3 #[.int .i64 ((n+1:Nat):Int)]):=by
  unfold Hid;rw[<-c,show((n+1:Nat):Int)=(n:Int)+1 by omega];exact d.set 0 (.int .i64 ((n:Int)+1))
 have K:Hid (Bx w2 i 24 #[.slice t p s]):=(b.block i (by have:=r.out;have:=f.size;omega) (λe=>k e.symm)).trans (L.out.kp f);have u:=JE ((T.out.kp f).step b);have a:=JE (JN b f);have H:=JE c;have I:Hid (Rd w2 (.slice a1 X c1) (be 4 n)):=S.out.1.rd.stepF b (dZ (C:=w.heap.size) (λg B=>(KU S.out.1 g B).1) λg B=>by have:=r.out;omega);clear E f m R b c l d L T U;go_wp2_with fail;rw[H.out];refine(y.out w2 _ u.out.1 I.out).mono ?_;rintro _ D ⟨⟨v3,rfl,A⟩,j⟩;obtain⟨a3,V,c3,rfl⟩:=aA A.rd;have HF:Hid (((∃ v,Ending.returned (.slice a3 V c3)=.returned v/\Rd D v (eD secret n)/\ba w.heap.size v)/\eo D gc i secret (n+1)/\az (λg=>g=gc) w D)):=
  ⟨⟨_,rfl,A.rd,λg B=>Kd (Kd a.out.2.size a.out.1.size) (KU A g B).1⟩,eo.kp ⟨J.out,⟨_,K.out,u.out⟩,k⟩ j,
   ⟨j.os.trans (a.out.1.os.trans a.out.2.os),j.tape.trans (a.out.1.tape.trans a.out.2.tape),j.output.trans (a.out.1.output.trans a.out.2.output),Kd a.out.2.size (Kd a.out.1.size j.size),λq O P=>by
    have N:q<z.heap.size:=JV O a.out.2.size;exact(j.block q (JV N a.out.1.size)).trans ((a.out.1.block q N P).trans (a.out.2.block q O))⟩⟩
 clear A j Z y;go_wp2_with fail;go_ret;exact HF.out
theorem Ii (v:Value)(secret:List UInt8)(w:World)(b:Rd w v secret):
  Calls prog 57 #[v] w λe w'=>(e=.returned (.func (.func 99) #[] #[.pointer (some ⟨w.heap.size+1,0,none⟩),.pointer (some ⟨w.heap.size,0,none⟩)])/\eo w' (w.heap.size+1) w.heap.size secret 0)/\Kp w w':=by
 have d:=JE b;obtain⟨a,n,c,rfl⟩:=aA b;clear b;go_enter func57,ntmps57;go_wp2_with fail;go_ret;refine⟨⟨rfl,?_,⟨_,(Oa w _ _).kp ((NQ _).alloc _),d.out.kp (((NQ _).alloc _).alloc _),lW (w:=w) d.out.inside λg f=>by omega⟩,by omega⟩,((NQ _).alloc _).alloc _⟩;have:=Oa (w.alloc (.cells #[.slice a n c] 24)) 3 #[.int .i64 0];rw[JY] at this;exact this
theorem Il (aa n s:Value)(t:List Nod)(K i:Nat)(x:Nat)(w0:World)(a:WIn w0 aa n s t K i)(k:x<t.length):
  ∃ p,Rd w0 p (ats t x).pub/\∀ W,Kp w0 W->Calls prog 103 #[.agg #[aa,.int .i64 (i:Int),n,s],.int .i64 (x:Int)] W λe w'=>e=.returned p/\Kp W w':=by
 obtain⟨G,u,rfl,p1,z⟩:=a.tree.shape;obtain⟨b,d,rfl,_,l⟩:=a.tree.at x k;obtain⟨p,q,h,c⟩:=l x k;obtain⟨w,o,v,rfl⟩:=a.nodes.sl;obtain⟨j,f,g,rfl⟩:=Oc a.steps;refine⟨p,c.2.pub,λW r=>?_⟩;have m:Hid (Kp W (W.alloc (.cells #[.slice (some ⟨b,d,none⟩) t.length u,.int .i64 (i:Int),.slice w o v,.slice j f g] 95))):=(NQ _).alloc _;have F:=(c.kp (r.trans m.out)).pubC;obtain⟨H,A,E,rfl⟩:=aA c.2.pub;have D:¬(x:Int)<0:=by omega
 have C:¬(t.length:Int)<=(x:Int):=by omega
 have B:(x:Int)<(t.length:Int):=by omega
 generalize (ats t x).pub=y at *;generalize t.length=N at *;clear a l c;go_enter func103,ntmps103;go_wp2_with fail;go_ret;exact⟨rfl,m.out⟩
theorem Kp.stepOld {w0:World}(h:Kp w0 A)(s:az Y A B)(b:∀ g,Y g->w0.heap.size<=g):Kp w0 B:=
 ⟨s.os.trans h.os,s.tape.trans h.tape,s.output.trans h.output,Kd h.size s.size,λq a=>(s.block q (JV a h.size) (λe=>by have:=b q e;omega)).trans (h.block q a)⟩
theorem az.next {C:World}(h:az Y A B)(s:az Y B C):az Y A C:=
 ⟨s.os.trans h.os,s.tape.trans h.tape,s.output.trans h.output,Kd h.size s.size,λq a b=>(s.block q (JV a h.size) b).trans (h.block q a b)⟩
theorem Im (aa n s q vs vi:Value)(t:List Nod)(K i:Nat)(a:List Int)(x:Int)(b info secret:List UInt8)(m gc N:Nat)(w0 w:World)(h0:Kp w0 w)(hu:WIn w0 aa n s t K i)(hq:RI w0 q a)(hs:RZ (λg=>g=gc) w vs b)(hi:Rd w0 vi info)
  (ho:eo w gc N secret m) (aB:w0.heap.size<=gc) (M:∀ j,j<a.length->∃ y:Nat,a.getD j 0=(y:Int)/\y<t.length/\(ats t y).pub.length=32) (aP:a.length<=2048) (hm:m<=100000) (aR:secret.length=32) (L:b.length<=1600) (ay:info.length<=1400):
  Calls prog 58 #[.agg #[aa,.int .i64 (i:Int),n,s],.agg #[.int .i64 x,q],vs,vi,.func (.func 99) #[] #[.pointer (some ⟨gc,0,none⟩),.pointer (some ⟨N,0,none⟩)]] w λe w'=>
   (∃ v,e=.returned (.tuple #[v,.int .i64 0])/\GZ dS 92 (λg=>g<w.heap.size) w' w.heap.size v (de t secret info b m a))/\eo w' gc N secret (m+a.length)/\az (λg=>g=gc) w w':=by
 have z:=JE (λy (hy:y<t.length)=>Il aa n s t K i y w0 hu hy);have aX:=JE (λW k (h:eo W gc N secret k) (hk:k<1000000)=>Ih gc N k secret W h hk (by omega));have aS:=JE (λW (hW:Kp w0 W) (vp vo:Value) (pub once:List UInt8) (hp:Rd W vp pub) (h:Rd W vo once) (aO:Rd W vs b)=>Gg vp vo vi vs pub once info b W hp h (hi.kp hW) aO ay L);have aV:=JE hs;have ag:=JE (fun(pub:List UInt8) k (hp:pub.length=32)=>(pA (pub:=pub) (once:=eD secret k) info b ⟨nN _ _ _,hp⟩).1);have G:=JE (λj (hj:j<a.length)=>Ej (t:=t) (secret:=secret) (info:=info) (s:=b) (n:=m) (j:=j) (l:=a) hj);have H:Hid ((de t secret info b m a).take a.length=de t secret info b m a):=by unfold Hid;rw[<-nP t secret info b a m,Kz]
 have I:=JE M;have HQ:=JE hq;have aK:=JE aB;obtain⟨au,nu,cu,rfl⟩:=hu.tree.sl;obtain⟨an,nn,cn,rfl⟩:=hu.nodes.sl;obtain⟨ae,V,ad,rfl⟩:=Oc hu.steps;obtain⟨aq,cq,rfl,p1,s1⟩:=hq.shape;obtain⟨ah,nh,ch,rfl⟩:=aA hs.1;obtain⟨ai,ni,ci,rfl⟩:=aA hi;obtain⟨J,hJ⟩:∃ J,a.length=J:=⟨_,rfl⟩;rw[hJ] at G H I HQ p1 aP ⊢;have HO:=JE ho;have H0:=JE h0;have F:Hid (gc<w.heap.size):=(JK.1 ho.cnt).1;clear hu hq hs hi ho h0 M hJ aR ay L aB;go_enter func58,ntmps58;go_wp2_with fail;obtain⟨c,D⟩:∃ c,(w.alloc (.cells #[.slice au nu cu,.int .i64 (i:Int),.slice an nn cn,.slice ae V ad] 95)).alloc (.cells #[.int .i64 x,.slice aq J cq] 99)=c:=⟨_,rfl⟩;have HB:Hid (Bx c w.heap.size 95 #[.slice au nu cu,.int .i64 (i:Int),.slice an nn cn,.slice ae V ad]):=by unfold Hid;rw[<-D];exact(Oa w _ _).kp ((NQ _).alloc _)
 have A:Hid (Kp w c):=by unfold Hid;rw[<-D];exact((NQ _).alloc _).alloc _
 rw[D];clear D;go_loopw[12,21] (λaL Q wr=>∃ j:Nat,j<=J/\Q=.int .i64 (j:Int)/\GZ dS 92 (λg=>g<c.heap.size) wr c.heap.size aL ((de t secret info b m a).take j)/\eo wr gc N secret (m+j)/\az (λg=>g=gc) c wr) (λ_ Q _=>(J - (intOf Q).toNat))
 case atStart=>exact⟨0,JW _,rfl,GZ.nil _ _ _,HO.out.kp A.out,NU _ _⟩
 case round=>
  obtain⟨j,hj,rfl,f,av,ab⟩:=hrel;have B:=JE (JN f (JN av ab));have KW:Hid (Kp w0 wr):=Kp.stepOld (H0.out.trans A.out) ab λg d=>by rw[d];exact aK.out
  obtain⟨ax,nx,cx,rfl⟩:=Oc f.gl;clear f av ab;by_cases E:j<J
  ·obtain⟨gq,oq,rfl,_,aC⟩:=(HQ.out.kp KW.out).at j E
   have c0:=aC j E;obtain⟨y,X,aN,aM⟩:=I.out j E;rw[X] at c0;obtain⟨pv,rp,O⟩:=z.out y aN;have aW:=JE O;have RP:=JE rp;obtain⟨ap,np,cp,rfl⟩:=aA rp;have a1:=JE (ag.out (ats t y).pub (m+j) aM);have aT:Hid ((de t secret info b m a).take (j+1)=(de t secret info b m a).take j++[⟨ix (ats t y).pub (eD secret (m+j)),iz (ats t y).pub (eD secret (m+j)) info b⟩]):=by
    have:=G.out j E;unfold seS at this;rw[X,JX] at this;exact this
   have i1:IntKind.i64.wrap ((j:Int)+1)=(j:Int)+1:=JI _ (by omega);have i3:(j:Int)<(J:Int):=by omega
   have hb:=HB.out;have r:Bx wr w.heap.size 95 #[.slice au nu cu,.int .i64 (i:Int),.slice an nn cn,.slice ae V ad]:=(B.out.2.2.block w.heap.size (JK.1 hb).1 (λe=>by have:=F.out;omega)).trans hb;have e0:=r.cell 0;have e1:=r.cell 1;have e2:=r.cell 2;have e3:=r.cell 3;simp only[JT,JS,JU] at e0 e1 e2 e3;have aU:Hid (((de t secret info b m a).take j).length+1<=1000000):=by unfold Hid;rw[Ki];omega
   generalize aQ:(de t secret info b m a).take j=TK at *;generalize (ats t y).pub=af at *;clear aC X O rp aQ hb r z I ag G H;go_wp2_with fail;refine(aW.out wr KW.out).mono ?_;rintro _ wa ⟨rfl,ka⟩;have KA:=JE ka;clear ka;go_wp2_with(go_at_call 99;refine(aX.out wa (m+j) (B.out.2.1.kp KA.out) (by omega)).mono ?_;rintro _ T ⟨⟨a3,rfl,rb,nb⟩,aw,p⟩)
   obtain⟨a6,a4,a5,rfl⟩:=aA rb;have aH:Hid (Kp w0 T):=Kp.stepOld (KW.out.trans KA.out) p λg d=>by rw[d];exact aK.out
   have aZ:Hid (GZ dS 92 (λg=>g<c.heap.size) T c.heap.size (.slice ax nx cx) TK):=
    (B.out.1.kp KA.out).step (Y:=λg=>g=gc) p (λg d=>.inl (by have:=F.out;have:=A.out.size;omega)) (λg d e=>by have:=(B.out.1.lt g d).1;have:=F.out;have:=A.out.size;omega)
   have aI:Hid (az (λg=>g=gc) c T):=(B.out.2.2.next (NY KA.out)).next p;have aY:=JE aw;have u:Hid (c.heap.size<=wr.heap.size/\wr.heap.size<=T.heap.size):=⟨B.out.2.2.size,Kd KA.out.size p.size⟩;have aJ:Hid (∀ g,(Value.slice ax nx cx).ownBlock=some g->g<wr.heap.size):=λg d=>(B.out.1.lt g d).2
   refine(aS.out T aH.out _ _ af (eD secret (m+j)) (RP.out.kp aH.out) rb (aV.out.step ((NY A.out).next aI.out)).1).mono ?_;rintro _ wc ⟨⟨vh,vb,rfl,rh,U,nh,al⟩,kc⟩;rw[a1.out];obtain⟨aF,ak,aD,rfl⟩:=aA rh;obtain⟨aG,am,aE,rfl⟩:=aA U;have a0:Hid (dS.R (λg=>some g=(Value.slice ax nx cx).ownBlock\/g<c.heap.size) wc [.slice aF ak aD,.slice aG am aE] ⟨ix af (eD secret (m+j)),iz af (eD secret (m+j)) info b⟩):=
    ⟨_,_,rfl,⟨rh,dZ (C:=T.heap.size) nh λg d=>d.elim (λh=>by have:=aJ.out g h.symm;have:=u.out;omega) λh=>by have:=u.out;omega⟩,
     ⟨U,dZ (C:=T.heap.size) al λg d=>d.elim (λh=>by have:=aJ.out g h.symm;have:=u.out;omega) λh=>by have:=u.out;omega⟩⟩
   have aj:=JE (aZ.out.kp kc);have KC:=JE kc;have a2:Hid (c.heap.size<=wc.heap.size):=by have:=u.out;have:=kc.size;unfold Hid;omega
   clear rh U nh al kc rb nb aw p e0 e1 e2 e3 c0;go_wp2_with(at_builtin;refine fL (S:=dS) (Z:=λg=>g<c.heap.size) (o:=⟨some 45,_,_,_,_,_⟩) seK rfl _ _ rfl c.heap.size _ TK rfl (aj.out.kp ((NQ _).alloc _)) _ [_] rfl (SE.litZ (S:=dS) 92 a0.out rfl) (by exact aU.out) (Kd a2.out (by simp)) ?_;intro vF wh oh gh qh)
   rw[<-aT.out] at oh;have P:Hid (eo wh gc N secret (m+(j+1))/\az (λg=>g=gc) c wh):=by
    have ar:az (λg=>g=gc) c wh:=((aI.out.next (NY KC.out)).next (NY ((NQ _).alloc _))).then gh λg d=>.inl (aj.out.lt g d).1
    have ho:=(aY.out.kp KC.out).kp ((NQ wc).alloc (.cells #[.slice aF ak aD,.slice aG am aE] 92));have l1:gc<c.heap.size:=by have:=F.out;have:=A.out.size;omega
    obtain⟨_,⟨v,h2,h3⟩,h4⟩:=HO.out;have ao:az (λg=>g=gc) w wh:=(NY A.out).next ar;exact⟨⟨ho.cnt.grown gh (λe=>by have:=(aj.out.lt _ e.symm).1;omega),⟨v,(ao.block N (JK.1 h2).1 (λe=>h4 e.symm)).trans h2,h3.step ao⟩,h4⟩,ar⟩
   go_roundw
   case rel=>exact⟨j+1,by omega,by first|rfl|(rw[i1];rfl),oh,P.out.1,P.out.2⟩
   case measure=>simp[intOf];omega
  ·obtain rfl:j=J:=by omega
   have h1:¬(j:Int)<(j:Int):=by omega
   have f:=B.out.1;rw[H.out] at f;have HF:=JE (JN ((f.solidly λg d=>.inr (.inl (show g<c.heap.size from JV d A.out.size))).mono A.out.size) (JN B.out.2.1 ((NY A.out).next B.out.2.2)));clear f z I ag G H;go_wp2_with fail;go_ret2;exact⟨⟨_,rfl,HF.out.1⟩,HF.out.2.1,HF.out.2.2⟩
theorem tx {own:List Sd}{info:List UInt8}:∀ (who:List Int) (f:List Se) (k:Nat),k<=who.length->(∀ j,j<k->(aZ own (who.getD j 0)).length=0)->df own info who f=df own info (who.drop k) (f.drop k)
 | who,f,0,_,_=>by rw[List.drop_zero,List.drop_zero]
 | [],f,k+1,h,_=>absurd h (Nat.not_succ_le_zero _)
 | y :: l,f,k+1,h,hp=>by
  have h0:(aZ own y).length=0:=hp 0 (Nat.succ_pos _)
  have e:df own info (y :: l) f=df own info l f.tail:=by
   show(if (aZ own y).length=0 then _ else _)=_
   rw[if_pos h0]
  rw[e,tx l f.tail k (Nat.le_of_succ_le_succ h) λj hj=>hp (j+1) (Nat.succ_lt_succ hj)]
  congr 1
  cases f with
  | nil=>simp
  | cons a f=>rfl
theorem zw {own:List Sd}{info:List UInt8}{k:Nat}(a:k<who.length)(g:f.length=who.length)(c:∀ j,j<k->(aZ own (who.getD j 0)).length=0)(h:(aZ own (who.getD k 0)).length≠0):
  df own info who f=if (aH f k).half.length≠32 then ([],5)
   else if unE (aZ own (who.getD k 0)) (aH f k).half info (aH f k).b≠0 then ([],unE (aZ own (who.getD k 0)) (aH f k).half info (aH f k).b)
   else if (unR (aZ own (who.getD k 0)) (aH f k).half info (aH f k).b).length≠32 then ([],2)
   else (unR (aZ own (who.getD k 0)) (aH f k).half info (aH f k).b,0):=by
 rw[tx who f k (by omega) c];have e:who.drop k=who.getD k 0 :: who.drop (k+1):=by
  rw[LK a,JF,JG a];rfl
 have d:f.drop k=aH f k :: f.drop (k+1):=by
  unfold aH;rw[LK (by omega),JF,JG (by omega)];rfl
 rw[e,d];show(if (aZ own (who.getD k 0)).length=0 then _ else _)=_
 rw[if_neg h];rfl
theorem zx {own:List Sd}{info:List UInt8}(a:∀ j,j<who.length->(aZ own (who.getD j 0)).length=0):df own info who f=([],5):=by
 rw[tx who f who.length (JO _) a,NA];rfl
theorem IA (aa x y v vi:Value)(who:List Int)(B:St)(own:List Sd)(info:List UInt8)(w:World)(hu:RI w aa who)(hx:Rd w x B.pub)(hy:EL w y B.fors)(hv:SL w v own)(hi:Rd w vi info)
  (X:B.fors.length=who.length) (ae:info.length<=1400) (ag:∀ k,k<who.length->(aH B.fors k).b.length<=1600) (al:who.length<=100000) (U:own.length<=100000):
  Calls prog 74 #[aa,.agg #[x,y],v,vi] w λe w'=>(∃ r,e=.returned (.tuple #[r,.int .i64 (df own info who B.fors).2])/\Rd w' r (df own info who B.fors).1)/\Kp w w':=by
 have HU:=JE hu;have HY:=JE hy;have m:=JE (λW (J:Kp w W) n=>yJ v own n W (Od hv J) U);have G:=JE (λW (J:Kp w W) (s h b:Value) (sd hf bb:List UInt8) (h1:Rd W s sd) (h2:Rd W h hf) (h4:Rd W b bb) (hb:bb.length<=1600)=>Ij s h vi b sd hf info bb W h1 h2 (hi.kp J) h4 ae hb);have l:=JE (λk hk hp h=>zw (own:=own) (info:=info) (who:=who) (f:=B.fors) (k:=k) hk X hp h);have g:=JE (λhp=>zx (own:=own) (info:=info) (who:=who) (f:=B.fors) hp);have Q:=JE ag;obtain⟨au,cu,rfl,p1,s1⟩:=hu.shape;obtain⟨ax,nx,cx,rfl⟩:=aA hx;obtain⟨ay,cy,rfl,p2,s2⟩:=Ob hy;obtain⟨av,nv,cv,rfl⟩:=Oc hv;obtain⟨ai,ni,ci,rfl⟩:=aA hi;generalize B.fors=FS at *;generalize df own info who FS=a at *;obtain⟨N,hN⟩:∃ N,who.length=N:=⟨_,rfl⟩;rw[X] at p2 HY ⊢;rw[hN] at p1 p2 HU HY l g Q al X ⊢;have ak:=JE X;clear hu hx hy hv hi X hN ag ae U;go_enter func74,ntmps74;go_wp2_with fail;obtain⟨S,C⟩:∃ S,w.alloc (.cells #[.slice ax nx cx,.slice ay N cy] 74)=S:=⟨_,rfl⟩;have hb:Bx S w.heap.size 74 #[.slice ax nx cx,.slice ay N cy]:=by rw[<-C];exact Oa w _ _
 have ad:Kp w S:=by rw[<-C];exact(NQ _).alloc _
 have K:=JE (JN hb ad);rw[C];clear hb ad C;go_loopw[10] (λi wr=>∃ k:Nat,k<=N/\i=.int .i64 (k:Int)/\(∀ j,j<k->(aZ own (who.getD j 0)).length=0)/\Kp S wr) (λi _=>(N - (intOf i).toNat))
 case atStart=>exact⟨0,JW _,rfl,λt h=>by omega,NQ _⟩
 case round=>
  obtain⟨k,hk,rfl,I,Z⟩:=hrel;have H:=JE I;have D:=JE Z;clear I Z;by_cases q:k<N
  ·obtain⟨gu,ou,rfl,_,af⟩:=(HU.out.kp (K.out.2.trans D.out)).at k q
   have c0:=af k q;have i1:IntKind.i64.wrap ((k:Int)+1)=(k:Int)+1:=JI _ (by omega);have i3:(k:Int)<(N:Int):=by omega
   have ao:=JE (m.out wr (K.out.2.trans D.out) (who.getD k 0));have P:=JE (l.out k q H.out);have HP:Hid ((aZ own (who.getD k 0)).length=0->∀ j,j<k+1->(aZ own (who.getD j 0)).length=0):=λh j hj=>by
    rcases Kh (Kr.1 hj) with h3|h3
    ·exact H.out j h3
    ·rw[h3];exact h
   have ap:=JE (Q.out k q);clear af m l H Q;generalize who.getD k 0=Y at *;go_wp2_with fail;refine ao.out.mono ?_;rintro _ _ ⟨⟨r,rfl,hr⟩,rfl⟩;generalize aZ own Y=z at *;obtain⟨ar,cr,rfl,r1,r2⟩:=hr.shape;have HR:=JE hr;by_cases h0:z.length=0
   ·have F:=JE (HP.out h0)
    have h4:¬(0:Int)<(z.length:Int):=by omega
    clear HP P hr;go_wp2_with fail;go_roundw
    case rel=>exact⟨k+1,by omega,by go_num,F.out,D.out⟩
    case measure=>simp[intOf];omega
   ·have F:=JE (P.out h0)
    have h4:(0:Int)<(z.length:Int):=by omega
    have d1:=(K.out.1.kp D.out).cell 1;simp only[JT,JS,JU] at d1;obtain⟨ge,oe,ce,hv,bv,e2,_,f0,f1,rh,rb⟩:=EL.node (i:=k) (Od HY.out (K.out.2.trans D.out)) (by rw[ak.out];exact q);rw[ak.out] at e2;simp only[JR] at e2;obtain⟨rfl,_,rfl⟩:=e2;obtain⟨ah,ch,rfl,h5,h6⟩:=rh.shape;obtain⟨ab,nb,cb,rfl⟩:=aA rb;have am:=JE rh;have an:=JE rb;generalize (aH FS k).half=m at *;generalize (aH FS k).b=R at *;clear HP P hr rh rb h0;by_cases u:m.length=32
    ·have o:Hid (a=if unE z m info R≠0 then ([],unE z m info R) else if (unR z m info R).length≠32 then ([],2) else (unR z m info R,0)):=by have:=F.out;rwa [if_neg (by simpa using u)] at this
     have aj:=JE (λW (J:Kp wr W)=>G.out W ((K.out.2.trans D.out).trans J) (.slice ar z.length cr) (.slice ah 32 ch) (.slice ab nb cb) z m R (HR.out.kp J) (by have:=am.out.kp J;rwa [u] at this) (an.out.kp J) ap.out);rw[u] at f0;clear F G u;generalize unE z m info R=UE at *;generalize unR z m info R=A at *;go_wp2_with fail;go_region_held3 (λW=>W.cell? ⟨w.heap.size,1,none⟩=some (.slice (some ⟨ge,oe,none⟩) N cy)/\W.cell? ⟨ge,oe+k*2,none⟩=some (.slice ah 32 ch)/\W.cell? ⟨ge,oe+k*2+1,none⟩=some (.slice ab nb cb))
      (first|exact⟨d1,f0,f1⟩|exact⟨K9.out.cell d1,K9.out.cell f0,K9.out.cell f1⟩)
      (first|(go_at_call 123;refine(aj.out _ (NQ _).drew).mono ?_;rintro _ L ⟨⟨q9,rfl,r9⟩,k9⟩;have K9:Hid (Kp wr L):=(NQ _).drew.trans k9;have R9:=JE r9))
     have KZ:=JE ((K.out.2.trans D.out).trans K9.out);obtain⟨a9,c9,rfl,l1,l2⟩:=r9.shape;clear r9 k9 d1 f0 f1 aj;by_cases M:UE=0
     ·subst M
      have E:Hid (a=if A.length≠32 then ([],2) else (A,0)):=by have:=o.out;rwa [if_neg (by simp)] at this
      clear o;by_cases p:A.length=32
      ·have d:Hid (a=(A,0)):=by have:=E.out;rwa [if_neg (by simpa using p)] at this
       have T:(A.length:Int)=32:=by omega
       have c:Hid ((∃ r,Ending.returned (.tuple #[Value.slice a9 A.length c9,.int .i64 0])=.returned (.tuple #[r,.int .i64 a.2])/\Rd L r a.1)/\Kp w L):=by rw[d.out];exact⟨⟨_,rfl,R9.out⟩,KZ.out⟩
       have O:((A.length:Int)==32)=true:=by rw[T];rfl
       have aq:((A.length:Int) != 32)=false:=by rw[T];rfl
       clear E d p;go_wp2_with fail;go_ret2;exact c.out
      ·have d:Hid (a=([],2)):=by have:=E.out;rwa [if_pos p] at this
       have c:Hid ((∃ r,Ending.returned (.tuple #[Value.slice none 0 0,.int .i64 2])=.returned (.tuple #[r,.int .i64 a.2])/\Rd L r a.1)/\Kp w L):=by rw[d.out];exact⟨⟨_,rfl,bU _⟩,KZ.out⟩
       have O:((A.length:Int)==32)=false:=JL.2 (by omega);have V:¬(A.length:Int)=32:=by omega
       clear E d;go_wp2_with fail;go_ret2;exact c.out
     ·have d:Hid (a=([],UE)):=by have:=o.out;rwa [if_pos M] at this
      have c:Hid ((∃ r,Ending.returned (.tuple #[Value.slice none 0 0,.int .i64 UE])=.returned (.tuple #[r,.int .i64 a.2])/\Rd L r a.1)/\Kp w L):=by rw[d.out];exact⟨⟨_,rfl,bU _⟩,KZ.out⟩
      have O:(UE==0)=false:=JL.2 M;clear o d;go_wp2_with fail;go_ret2;exact c.out
    ·have o:Hid (a=([],5)):=by have:=F.out;rwa [if_pos u] at this
     have O:((m.length:Int)==32)=false:=JL.2 (by omega);have V:¬(m.length:Int)=32:=by omega
     have c:Hid ((∃ r,Ending.returned (.tuple #[Value.slice none 0 0,.int .i64 5])=.returned (.tuple #[r,.int .i64 a.2])/\Rd wr r a.1)/\Kp w wr):=by rw[o.out];exact⟨⟨_,rfl,bU _⟩,K.out.2.trans D.out⟩
     clear F G;go_wp2_with fail;go_ret2;exact c.out
  ·obtain rfl:k=N:=by omega
   have F:=JE (g.out H.out);have c:Hid ((∃ r,Ending.returned (.tuple #[Value.slice none 0 0,.int .i64 5])=.returned (.tuple #[r,.int .i64 a.2])/\Rd wr r a.1)/\Kp w wr):=by rw[F.out];exact⟨⟨_,rfl,bU _⟩,K.out.2.trans D.out⟩
   clear m l G g F;go_wp2_with fail;go_ret2;exact c.out
section
open Go.Maps
theorem IB {own:List Sd}(h:srt own)(b:s∈own):aZ own s.node=s.seed:=by
 induction own with
 | nil=>cases b
 | cons a l ih=>
  unfold aZ
  rcases Lu.1 b with e|e
  ·rw[e,if_pos rfl]
  ·have:=(Ml.1 h).1 s e
   rw[if_neg (by omega)]
   exact ih (Ml.1 h).2 e
theorem IC {own:List Sd}{x:Int}(h:∀ s∈own,s.node≠x):aZ own x=[]:=by
 induction own with
 | nil=>rfl
 | cons a l ih=>
  unfold aZ
  rw[if_neg (h a (by simp))]
  exact ih λs b=>h s (by simp[b])
theorem ID (aa n s x y vi:Value)(t:List Nod)(K i k m aD:Nat)(own:List Sd)(info:List UInt8)(p:Pa)(w:World)(hu:WIn w aa n s t K i)(hm:KM prog 3 w m aD (λy=>y∈own))(al:srt own)(az:∀ s∈own,s.seed.length=32)(hi:Rd w vi info)(Z:PIn w x y p)
  (hk:k<(ixS t i K).length) (Y:p.step.length=(ixS t i K).length) (B:(am p.step k).fors.length=((aT t i K).getD k []).length) (aw:∀ j,j<((aT t i K).getD k []).length->0<=((aT t i K).getD k []).getD j 0/\((aT t i K).getD k []).getD j 0<=1000000) (av:info.length<=1400) (ay:∀ j,(aH (am p.step k).fors j).b.length<=1600):
  Calls prog 70 #[.agg #[aa,.int .i64 (i:Int),n,s],.int .i64 (k:Int),.map (some m),vi,.agg #[x,y]] w λe w'=>
   (∃ r,e=.returned (.tuple #[r,.int .i64 (df own info ((aT t i K).getD k []) (am p.step k).fors).2])/\Rd w' r (df own info ((aT t i K).getD k []) (am p.step k).fors).1)/\Kp w w':=by
 obtain⟨gs,os,cs,q,e1,_,c0,c1,rq⟩:=aJ.sp (i:=k) hu.steps (by rw[iB];exact hk);rw[kP hk] at rq c0;dsimp only at rq c0
 obtain⟨gp,op,J,pv,qv,e2,_,ap⟩:=dl.nodeK (i:=k) Z.step (by rw[Y];exact hk);obtain⟨d0,d1,rp,rf⟩:=ap w (NQ _);have T:=iB t i K;rw[T] at e1;rw[Y] at e2;subst e1 e2;generalize (aT t i K).getD k []=who at *;generalize (aC t i K).getD k 0=X at *;generalize (ixS t i K).length=M at *;generalize (am p.step k).fors=G at *;have c:=JE (λj hj Z h=>show df own info who G=mg (aZ own (who.getD j 0)) info (aH G j).half (aH G j).b from zw (own:=own) (info:=info) (who:=who) (f:=G) (k:=j) hj B Z h);have a:=JE (λZ=>zx (own:=own) (info:=info) (who:=who) (f:=G) Z);have ak:=JE (λs (hs:s∈own)=>JN (IB al hs) (az s hs));have aj:=JE (λx (h:∀ s∈own,s.node≠x)=>IC h);have O:=JE (λW (v x y:Value) (seed half b:List UInt8) (d:Kp w W) (h1:Rd W v seed) (h2:Rd W x half) (h3:Rd W y b) hb=>Gk v vi x y seed info half b W h1 (hi.kp d) h2 h3 av hb);have HM:=JE hm;have aG:=JE rq;have aI:=JE rf;have E:=JE aw;have P:=JE ay;have HC:=JE (λW (d:Kp w W)=>JN (d.cell c1) (d.cell d1));obtain⟨au,nu,cu,rfl⟩:=hu.tree.sl;obtain⟨an,nn,cn,rfl⟩:=hu.nodes.sl;obtain⟨ax,nx,cx,rfl⟩:=aA Z.pub;obtain⟨ai,ni,ci,rfl⟩:=aA hi;obtain⟨aq,cq,rfl,p1,s1⟩:=rq.shape;obtain⟨af,cf,rfl,aV,s3⟩:=Ob rf;generalize df own info who G=L at *;obtain⟨N,hN⟩:∃ N,who.length=N:=⟨_,rfl⟩;rw[B] at aV;rw[hN] at p1 aV aG c a E;have aL:Hid (G.length=N):=B.trans hN;have i0:¬(k:Int)<0:=by omega
 have i3:(k:Int)<(M:Int):=by omega
 clear hu hm al az hi Z Y aw av ay ap rp rf rq c0 c1 d0 d1 T;rw[B,hN] at aI HC;unfold maxLen at s1;clear B hN;go_enter func70,ntmps70;have e9:(w.alloc (.cells #[.slice au nu cu,.int .i64 (i:Int),.slice an nn cn,.slice (some ⟨gs,os,none⟩) M cs] 95)).heap.size=w.heap.size+1:=JY _ _;obtain⟨w1,o⟩:∃ w1,(w.alloc (.cells #[.slice au nu cu,.int .i64 (i:Int),.slice an nn cn,.slice (some ⟨gs,os,none⟩) M cs] 95)).alloc (.cells #[.slice ax nx cx,.slice (some ⟨gp,op,none⟩) M J] 27)=w1:=⟨_,rfl⟩;have C:Hid (Kp w w1):=by unfold Hid;rw[<-o];exact((NQ _).alloc _).alloc _
 have HB:Hid (Bx w1 (w.heap.size+1) 27 #[.slice ax nx cx,.slice (some ⟨gp,op,none⟩) M J]):=by
  unfold Hid;have:=Oa (w.alloc (.cells #[.slice au nu cu,.int .i64 (i:Int),.slice an nn cn,.slice (some ⟨gs,os,none⟩) M cs] 95)) 27 #[.slice ax nx cx,.slice (some ⟨gp,op,none⟩) M J];rw[e9] at this;rw[<-o];exact this
 have c3:=(HC.out ((w.alloc (.cells #[.slice au nu cu,.int .i64 (i:Int),.slice an nn cn,.slice (some ⟨gs,os,none⟩) M cs] 95)).alloc (.cells #[.slice ax nx cx,.slice (some ⟨gp,op,none⟩) M J] 27)) (by rw[o];exact C.out)).1;have aF:=JE o;clear o e9;go_wp2_with fail;rw[aF.out];clear aF c3;go_loopw[25] (λx wr=>∃ j:Nat,j<=N/\x=.int .i64 (j:Int)/\(∀ z,z<j->(aZ own (who.getD z 0)).length=0)/\Kp w1 wr) (λx _=>(N - (intOf x).toNat))
 case atStart=>exact⟨0,JW _,rfl,λz h=>by omega,NQ _⟩
 case round=>
  obtain⟨j,hj,rfl,R,ar⟩:=hrel;have D:=JE R;have l:=JE ar;clear R ar;by_cases u:j<N
  ·obtain⟨gq,oq,rfl,_,ae⟩:=(aG.out.kp (C.out.trans l.out)).at j u
   have aB:=ae j u;have Q:=E.out j u;obtain⟨X,hX⟩:∃ X,who.getD j 0=X:=⟨_,rfl⟩;rw[hX] at aB Q;obtain⟨v1,v2⟩:=Q;have i1:IntKind.i64.wrap ((j:Int)+1)=(j:Int)+1:=JI _ (by omega);have i4:(j:Int)<(N:Int):=by omega
   have A:Go.keyOf prog 3 (.int .i64 X)=some (.int .i64 X):=keyOf_int_mk underlying3 (Mf (by omega));have aK:Hid (KM prog 3 wr m aD (λy=>y∈own)):=HM.out.kp (C.out.trans l.out);by_cases ad:∃ s∈own,s.node=X
   ·obtain⟨⟨SN,SS⟩,V,H⟩:=ad
    dsimp only at H
    obtain⟨f1,f2⟩:=ak.out ⟨SN,SS⟩ V;dsimp only at f1 f2
    obtain⟨gf,of,aP,ph,pb,e3,_,S⟩:=EL.nodeK (i:=j) aI.out (by rw[aL.out];exact u);rw[aL.out] at e3;simp only[JR] at e3;obtain⟨rfl,_,rfl⟩:=e3;have HX:Hid (L=mg SS info (aH G j).half (aH G j).b):=by
     have:=c.out j u D.out (by rw[hX,<-H,f1,f2];decide);rw[hX,<-H,f1] at this;exact this
    have g:=JE S;have aR:=JE (P.out j);have U:=JE (λW (d:Kp wr W) (q:Value) (hq:Rd wr q SS)=>O.out W q ph pb SS (aH G j).half (aH G j).b ((C.out.trans l.out).trans d) (hq.kp d) (g.out W ((C.out.trans l.out).trans d)).2.2.1 (g.out W ((C.out.trans l.out).trans d)).2.2.2 aR.out);rw[<-HX.out] at U;obtain⟨ah,nh,ch,rfl⟩:=aA (g.out w (NQ _)).2.2.1;obtain⟨ab,nb,cb,rfl⟩:=aA (g.out w (NQ _)).2.2.2;have F:=JE (λW (d:Kp wr W)=>JN ((HB.out.kp (l.out.trans d)).cell 1) (JN (HC.out W ((C.out.trans l.out).trans d)).2 (JN (g.out W ((C.out.trans l.out).trans d)).1 (g.out W ((C.out.trans l.out).trans d)).2.1)));have aE:Hid (Kp w wr):=C.out.trans l.out;have zs:=kR wr;subst H;clear hX HX c a O E P ak aj ae D f1 f2 S;go_wp2_with(at_lookup;go_loud (refine xz (e:=90) rfl _ _ 103 rfl fT underlying103 zs rfl aK.out ⟨SN,SS⟩ V rfl A ?_;intro q hq;obtain⟨aq,nq,ag,rfl⟩:=aA hq;dsimp only [sdV]))
    obtain⟨WQ,I⟩:∃ x,wr.alloc (.cells #[.int .i64 SN,.slice aq nq ag] 90)=x:=⟨_,rfl⟩;have KQ:Hid (Kp wr WQ):=by unfold Hid;rw[<-I];exact(NQ _).alloc _
    have aS:WQ.cell? ⟨wr.heap.size,1,none⟩=some (.slice aq nq ag):=by
     have:=(Oa wr 90 #[.int .i64 SN,.slice aq nq ag]).cell 1;rw[<-I];simp
    obtain⟨aO,aW,aU,aP⟩:=F.out WQ KQ.out;simp only[JT,JS,JU] at aO;have HQ:=JE hq;rw[I];clear I F hq zs A aB V;go_region_with (first
     | (go_at_call 120;refine(U.out _ (by first|exact KQ.out|exact KQ.out.drew) _ HQ.out).mono ?_;rintro _ w9 ⟨⟨r9,rfl,o9⟩,k9⟩;obtain⟨a9,aN,aQ,rfl⟩:=aA o9;have aM:Hid (Rd w9 (.slice a9 aN aQ) L.1/\Kp w w9):=⟨o9,(aE.out.trans (by first|exact KQ.out|exact KQ.out.drew)).trans k9⟩))
    all_goals (
     go_wp2_with fail;go_ret2;exact⟨⟨_,rfl,aM.out.1⟩,aM.out.2⟩)
   ·have ao:∀ s∈own,s.node≠X:=λs h e=>ad ⟨s,h,e⟩
    have HP:Hid (∀ z,z<j+1->(aZ own (who.getD z 0)).length=0):=λz hz=>by
     rcases Kh (Kr.1 hz) with h3|h3
     ·exact D.out z h3
     ·rw[h3,hX,aj.out X ao];rfl
    have zs:=kR wr;clear hX c a O E P ak aj ae D ad;go_wp2_with(at_lookup;go_loud (refine xA (e:=90) rfl _ _ 103 rfl fT underlying103 zs rfl aK.out X ao rfl A ?_))
    go_roundw
    case rel=>exact⟨j+1,by omega,by first|rfl|(rw[i1];rfl),HP.out,l.out.alloc _⟩
    case measure=>simp[intOf];omega
  ·obtain rfl:j=N:=by omega
   have h1:¬(j:Int)<(j:Int):=by omega
   have HX:=JE (a.out D.out);have HF:Hid ((∃ r,Ending.returned (.tuple #[Value.slice none 0 0,.int .i64 5])=.returned (.tuple #[r,.int .i64 L.2])/\Rd wr r L.1)/\Kp w wr):=by rw[HX.out];exact⟨⟨_,rfl,bU _⟩,C.out.trans l.out⟩
   clear HX a c O E P;go_wp2_with fail;go_ret2;exact HF.out
open Classical in
noncomputable def jY (t:List Nod) (own:List Sd) (l:List Nat):Nat:=(l.filter λx=>decide (fG t own x)).length
theorem Je {own:List Sd}(h:j<l.length)(b:fG t own (l.getD j 0)):jY t own (l.take (j+1))=jY t own (l.take j)+1:=by
 unfold jY;rw[JF,JG h] at b;have a:fG t own l[j]:=b;rw[JZ h,MC,JQ,List.filter_cons,if_pos (by simpa using a)];rfl
theorem Jf {own:List Sd}(h:j<l.length)(b:¬fG t own (l.getD j 0)):jY t own (l.take (j+1))=jY t own (l.take j):=by
 unfold jY;rw[JF,JG h] at b;have a:¬fG t own l[j]:=b;rw[JZ h,MC,JQ,List.filter_cons,if_neg (by simpa using a)];rfl
theorem Jg (t:List Nod)(own:List Sd)(l:List Nat):jY t own l<=l.length:=MB _ _
theorem Jh {own:List Sd}(k:srt own){x:Nat}(h:s∈own)(c:s.node=(x:Int)):fG t own x↔(fO s.seed=0/\dX s.seed=(ats t x).pub):=by
 constructor
 ·rintro⟨e,j,i,g,f⟩
  obtain rfl:e=s:=xg k j h (i.trans c.symm);obtain⟨a,b⟩:=eC g;exact⟨a,b.trans f⟩
 ·rintro⟨a,b⟩
  have d:s.seed.length=32:=by
   unfold fO at a;split at a
   ·assumption
   ·cases a
  exact⟨s,h,c,d,((eC d).2).symm.trans b⟩
theorem Ji (aa v:Value)(t:List Nod)(own:List Sd)(K me:Nat)(w:World)(hu:NL w aa t)(hv:SL w v own)(hr:aD t K)(ab:bc t (me:Int))(hs:srt own)(hl:own.length<=1000)(hw:∀ k,k<own.length->-9223372036854775808<=(aG own k).node/\(aG own k).node<=9223372036854775807)(ar:Tab w):
  Calls prog 16 #[aa,.int .i64 (me:Int),v] w λe w'=>aK e (bZ t K (me:Int) own)/\Kp w w':=by
 obtain⟨z1,z2,z3⟩:=hr.small;have bl:=bP hr.le;have a0:=hr.le;have aU:=hr.len2;have F:=(hr.there_iff me).1 ab;have am:=Oe (t:=t) (x:=2*me) (by rw[F];decide);have f:me<2 ^ K:=by omega
 have HT:=JE (λW (d:Kp w W)=>ot aa t K (me:Int) W (hu.kp d) hr);rw[Ke ab] at HT;have ba:=JE (yG v own w hv);have C:=yF.2 hs;have bk:=JE (λW (d:Kp w W)=>tq v own W (Od hv d) hs (by omega) hw);have bb:=JE (λW (d:Kp w W)=>yC aa t K me W (hu.kp d) hr f (ar.kp d));have U:=JE (DU (own:=own) hr ab hs);have P:=JE (λj (h:j<(bO K me).length) hg=>Je (t:=t) (own:=own) h hg);have Q:=JE (λj (h:j<(bO K me).length) hg=>Jf (t:=t) (own:=own) h hg);have al:=JE (λx s (h:s∈own) (A:s.node=((x:Nat):Int))=>Jh (t:=t) hs h A);have ak:Hid (∀ x:Nat,(∀ s∈own,s.node≠(x:Int))->¬fG t own x):=λx h ⟨s,h1,h2,_⟩=>h s h1 h2
 have aP:Hid (∀ j,j<(bO K me).length->(bO K me).getD j 0<t.length):=λj hj=>by
  have hm:(bO K me).getD j 0∈bO K me:=by rw[JF,JG hj];exact Ko hj
  obtain⟨X,hX⟩:∃ X,(bO K me).getD j 0=X:=⟨_,rfl⟩;rw[hX] at hm ⊢;clear hX;unfold bO at hm;rcases Le.1 hm with h|h
  ·rw[hr.len];exact eP f h
  ·rw[Lz] at h;rw[h];exact am
 have aE:(bO K me).length=K+1:=by unfold bO;rw[JQ,mi];rfl
 have a7:Hid (aL K 0 me++[2*me]=bO K me):=rfl;have a6:Hid ((bO K me).take (bO K me).length=bO K me):=Kz;have aQ:Hid (∀ j,j<(bO K me).length->(bO K me).take (j+1)=(bO K me).take j++[(bO K me).getD j 0]):=λj hj=>by
  rw[JZ hj,JF,JG hj];rfl
 have aj:=JE (λl=>Jg t own l);have bd:Hid ((aL K 0 me).length<=1000000):=by unfold Hid;rw[mi];omega
 have i2:IntKind.i64.wrap (2*(me:Int))=((2*me:Nat):Int):=by rw[JI _ (by omega)];omega
 have HU:=JE hu;have bi:=JE (λW (d:Kp w W) (aa:Value) (seed:List UInt8) (x:Nat) (p q h:Value) (hs:Rd W aa seed) (hn:NIn W (ats t x) p q h)=>Gn aa seed (ats t x) p q h W hs hn);have bh:=JE (λW (d:Kp w W) (x:Nat) (p q h:Value) (hn:NIn W (ats t x) p q h)=>Gp (ats t x) (me:Int) p q h W hn);have bf:Hid (∀ x,sC t (me:Int) x↔((ats t x).kind≠0/\(me:Int)∉(ats t x).un)):=λx=>Iff.rfl
 obtain⟨a,c,rfl,p1,s1⟩:=hu.shape;obtain⟨av,cv,rfl,_,_⟩:=Ob hv;obtain⟨R,hR⟩:∃ R,bZ t K (me:Int) own=R:=⟨_,rfl⟩;rw[hR] at U ⊢;obtain⟨G,hG⟩:∃ G,fG t own=G:=⟨_,rfl⟩;obtain⟨MT,af⟩:∃ M,jY t own=M:=⟨_,rfl⟩;obtain⟨MU,aO⟩:∃ M,sC t (me:Int)=M:=⟨_,rfl⟩;have V:Hid (R↔(∀ x∈bO K me,G x\/¬MU x)/\MT (bO K me)=own.length):=by
  unfold Hid;rw[<-hG,<-af,<-aO];exact U.out
 have aw:Hid (MT []=0):=by unfold Hid;rw[<-af];rfl
 simp only[hG,af,aO] at P Q al ak aj bf;clear U hR hG af aO;rw[aE] at P Q aP a6 aQ;generalize bO K me=u at *;generalize hM:K+1=M at *;generalize hN:t.length=N at *;generalize aZ:own.length=OL at *;generalize aL K 0 me=PT at *;have bt:M<=11:=by omega
 have au:=JE aE;unfold maxLen at s1;clear hu hv hr ab hs hw ar bl a0 aU F am f z2 z3 aE hM hN aZ;go_enter func16,ntmps16;go_wp2_with fail;refine(HT.out w (NQ _)).mono ?_;rintro _ _ ⟨rfl,rfl⟩;go_wp2_with fail;refine ba.out.mono ?_;rintro _ w2 ⟨⟨b2,rfl,aY⟩,k2⟩;obtain rfl:b2=true:=aY.2 C;have K2:=JE k2;clear aY ba C HT k2;go_wp2_with fail;refine(bk.out w2 K2.out).mono ?_;rintro _ w3 ⟨⟨rfl,aN⟩,k3⟩;have br:=JE aN;have K3:=JE (K2.out.trans k3);have bx:Hid (w2.heap.size<w3.heap.size/\w.heap.size<=w2.heap.size):=⟨aN.lt,K2.out.size⟩;clear aN k3 bk;go_wp2_with fail;refine(bb.out w3 K3.out).mono ?_;rintro _ w4 ⟨⟨pv,rfl,o4⟩,k4⟩;obtain⟨a4,n4,c4,rfl⟩:=o4.rn.sl;have O4:=JE o4;have a9:Hid (w3.heap.size<=w4.heap.size):=k4.size;have K4:=JE (K3.out.trans k4);have a2:=JE k4;clear o4 k4 bb;go_wp2_with(at_builtin;go_loud (refine qQ (o:=⟨some 30,_,_,_,_,_⟩) gx rfl _ _ rfl w3.heap.size _ PT rfl (O4.out.kp ((NQ w4).alloc _)) _ (2*me) rfl (ON.lit1 w4 3 (2*me)) bd.out (Kd a9.out (by simp)) ?_;intro v5 w5 o5 g5;rw[a7.out] at o5;obtain⟨a5,c5,e5,p5,s5⟩:=o5.rn.shape;rw[au.out] at e5 p5;subst e5;have a1:Hid (Kp w3 w5):=NS (a2.out.alloc _) g5 (λk hk=>O4.out.own_ge k hk)))
 have bq:=JE (br.out.kp a1.out);have K5:=JE (K3.out.trans a1.out);have O5:=JE o5.rn;clear o5 g5 O4 K4 a2 a7 bd a9;go_wp2_with fail;go_loopw[8,32] (λx8 aB wr=>∃ j:Nat,j<=M/\aB=.int .i64 (j:Int)/\x8=.int .i64 ((MT (u.take j):Nat):Int)/\(∀ x∈u.take j,G x\/¬MU x)/\Kp w5 wr) (λ_ aB _=>(M - (intOf aB).toNat))
 case atStart=>exact⟨0,JW _,rfl,by rw[LZ,aw.out];rfl,λx A=>by simp at A,NQ _⟩
 case round=>
  obtain⟨j,hj,rfl,rfl,ao,aV⟩:=hrel;have y:=JE aV;have az:=JE ao;clear ao aV;by_cases n:j<M
  ·obtain⟨gl,ol,rfl,_,aX⟩:=(O5.out.kp y.out).at j n
   have d0:=aX j n;have ag:=JE (aP.out j n);have D:=P.out j n;have E:=Q.out j n;have aF:=aQ.out j n;have aC:u.getD j 0∈u:=by rw[JF,JG (by rw[au.out];exact n)];exact Ko _
   have aT:=aj.out (u.take j);rw[Ki] at aT;obtain⟨X,hX⟩:∃ X,u.getD j 0=X:=⟨_,rfl⟩;rw[hX] at d0 ag D E aF aC;have Z:Hid ((G X\/¬MU X)->∀ x∈u.take (j+1),G x\/¬MU x):=λh x A=>by
    rw[aF] at A;rcases Le.1 A with A|A
    ·exact az.out x A
    ·rw[Lz] at A;rw[A];exact h
   have a3:=JE aC;generalize MT (u.take j)=A0 at *;have be:=JE D;have ax:=JE E;have bu:A0<=11:=by omega
   have i1:IntKind.i64.wrap ((j:Int)+1)=(j:Int)+1:=JI _ (by omega);have i6:IntKind.i64.wrap ((A0:Int)+1)=((A0+1:Nat):Int):=by rw[JI _ (by omega)];omega
   have i3:(j:Int)<(M:Int):=by omega
   have i5:(X:Int)<(N:Int):=by have:=ag.out;omega
   have an:Go.keyOf prog 3 (.int .i64 (X:Int))=some (.int .i64 (X:Int)):=keyOf_int_mk underlying3 (Mf (by omega));have bg:=JE (bq.out.kp y.out);have zs:=kR wr;obtain⟨b,z,rfl,_,hc⟩:=HU.out.at X ag.out;obtain⟨p,q,h,hn⟩:=hc X ag.out;have g:=JE (λW (d:Kp w W)=>hn.kp d);have ai:Hid (∀ W,Kp w W->W.cell? ⟨b,z+X*5,none⟩=some (.int .i64 (ats t X).kind)/\W.cell? ⟨b,z+X*5+1,none⟩=some (.int .i64 (ats t X).name)/\W.cell? ⟨b,z+X*5+2,none⟩=some p/\W.cell? ⟨b,z+X*5+3,none⟩=some q/\W.cell? ⟨b,z+X*5+4,none⟩=some h):=
    λW d=>⟨(g.out W d).kind,(g.out W d).name,(g.out W d).pubC,(g.out W d).unC,(g.out W d).hashC⟩
   have T:=JE (λW (d:Kp wr W)=>bh.out W (K5.out.trans (y.out.trans d)) X p q h (g.out W (K5.out.trans (y.out.trans d))).2);obtain⟨ap,np,cp,rfl⟩:=aA hn.2.pub;obtain⟨aq,nq,cq,rfl⟩:=hn.2.un.sl;obtain⟨ah,nh,ch,rfl⟩:=aA hn.2.hash;have ay:=JE (λW (d:Kp wr W) (aa:Value) (seed:List UInt8) (hs:Rd W aa seed)=>bi.out W (K5.out.trans (y.out.trans d)) aa seed X _ _ _ hs (g.out W (K5.out.trans (y.out.trans d))).2);clear aX D E aF aC aT hX hn hc aQ P Q aj aP g bi bh;obtain⟨bw,L⟩:∃ k,(ats t X).kind=k:=⟨_,rfl⟩;obtain⟨bv,J⟩:∃ k,(ats t X).name=k:=⟨_,rfl⟩;have m:=JE (bf.out X);simp only[L,J] at ai T ay m;by_cases ad:∃ s∈own,s.node=(X:Int)
   ·obtain⟨⟨SN,SS⟩,aI,aH⟩:=ad
    dsimp only at aH
    have aR:=JE (al.out X ⟨SN,SS⟩ aI aH);subst aH;clear al ak L J;go_wp2_with(at_lookup;go_loud (refine xz (e:=90) rfl _ _ 103 rfl fT underlying103 zs rfl bg.out ⟨(X:Int),SS⟩ aI rfl an ?_;intro qs hq;obtain⟨a8,n8,c8,rfl⟩:=aA hq;dsimp only [sdV]))
    obtain⟨WQ,ae⟩:∃ x,wr.alloc (.cells #[.int .i64 (X:Int),.slice a8 n8 c8] 90)=x:=⟨_,rfl⟩;have KQ:Hid (Kp wr WQ):=by unfold Hid;rw[<-ae];exact(NQ _).alloc _
    have bp:WQ.cell? ⟨wr.heap.size,1,none⟩=some (.slice a8 n8 c8):=by rw[<-ae];simp
    obtain⟨e0,e1,e2,e3,e4⟩:=ai.out WQ (K5.out.trans (y.out.trans KQ.out));have HQ:=JE hq;try rw[ae]
    clear ae hq zs d0 aI;go_region_with (first
     | (go_at_call 46;refine(ay.out _ (by first|exact KQ.out|exact KQ.out.drew) _ SS (by first|exact HQ.out.kp KQ.out|exact HQ.out.kp KQ.out.drew)).mono ?_;rintro _ w9 ⟨⟨b9,rfl,bn⟩,k9⟩;have aS:=JE bn;have K9:Hid (Kp wr w9):=(show Kp wr _ from by first|exact KQ.out|exact KQ.out.drew).trans k9))
    all_goals (
     clear e0 e1 e2 e3 e4 bp;cases b9
     ·have O:Hid (¬G X):=λh=>by have:=aS.out.2 (aR.out.1 h);cases this
      obtain⟨wz,B⟩:∃ x:World,x=w9:=⟨_,rfl⟩;subst B;have KZ:=JE K9.out;obtain⟨e0,e1,e2,e3,e4⟩:=ai.out wz (K5.out.trans (y.out.trans KZ.out));go_wp2_with fail;refine(T.out wz KZ.out).mono ?_;rintro _ wy ⟨⟨b7,rfl,H⟩,k7⟩;have KY:=JE (y.out.trans (KZ.out.trans k7));have Y:=JE H;clear H k7;cases b7
      ·have aJ:¬MU X:=λh=>by have:=Y.out.2 (m.out.1 h);cases this
       have r:=JE (Z.out (.inr aJ));have f:=ax.out O.out;go_wp2_with fail;go_roundw
       case rel=>exact⟨j+1,by omega,by first|rfl|(rw[i1];rfl),by rw[f],r.out,KY.out⟩
       case measure=>simp[intOf];omega
      ·have HX:Hid (¬R):=λh=>by
        rcases (V.out.1 h).1 X a3.out with h1|h1
        ·exact O.out h1
        ·exact h1 (m.out.2 (Y.out.1 rfl))
       go_wp2_with fail;go_ret;exact⟨Oi HX.out,K5.out.trans KY.out⟩
     ·have r:=JE (Z.out (.inl (aR.out.2 (aS.out.1 rfl))))
      have f:=be.out (aR.out.2 (aS.out.1 rfl));go_wp2_with fail;go_roundw
      case rel=>exact⟨j+1,by omega,by first|rfl|(rw[i1];rfl),by first|(rw[f];done)|(rw[f];simp),r.out,y.out.trans K9.out⟩
      case measure=>simp[intOf];omega)
   ·have O:Hid (¬G X):=ak.out X λs h e=>ad ⟨s,h,e⟩
    have bm:∀ s∈own,s.node≠(X:Int):=λs h e=>ad ⟨s,h,e⟩
    clear al ak ad L J;go_wp2_with(at_lookup;go_loud (refine xA (e:=90) rfl _ _ 103 rfl fT underlying103 zs rfl bg.out (X:Int) bm rfl an ?_))
    refine wp_region_held_drew (S:=λW=>True) (by kernel_rfl) (trivial) (λbo=>?_);refine wpAnyH_take (i:=0) (oi:=⟨some 42,_,_,_,_,_⟩) (v:=?_) rfl (by kernel_rfl) (by kernel_rfl) (by kernel_rfl) (λ_ _ _ h=>h) (LH ⟨by kernel_rfl,?_⟩) (by assumption) ?_;rotate_left;focus ((intro w I;(try dsimp only at I);go_simp);(try with_reducible rfl);done)
    simp only[Act.put,JH,JM,JP];refine wpAnyH_take (i:=1) (oi:=⟨some 43,_,_,_,_,_⟩) (v:=?_) rfl (by kernel_rfl) (by kernel_rfl) (by kernel_rfl) (λ_ _ _ h=>h) (LH ⟨by kernel_rfl,?_⟩) (by assumption) ?_;rotate_left;focus ((intro w I;(try dsimp only at I);go_simp);(try with_reducible rfl);done)
    simp only[Act.put,JH,JM,JP];refine wpAnyH_take (i:=2) (oi:=⟨some 44,_,_,_,_,_⟩) (v:=undef) rfl (by kernel_rfl) (by kernel_rfl) (by kernel_rfl) (λ_ _ _ h=>h) (LI ⟨by kernel_rfl,rfl⟩) (by assumption) ?_;simp only[Act.put,JH,JM,JP];refine wpAnyH_take (i:=3) (oi:=⟨some 45,_,_,_,_,_⟩) (v:=undef) rfl (by kernel_rfl) (by kernel_rfl) (by kernel_rfl) (λ_ _ _ h=>h) (LI ⟨by kernel_rfl,rfl⟩) (by assumption) ?_;simp only[Act.put,JH,JM,JP];refine wpAnyH_take (i:=4) (oi:=⟨some 46,_,_,_,_,_⟩) (v:=undef) rfl (by kernel_rfl) (by kernel_rfl) (by kernel_rfl) (λ_ _ _ h=>h) (LI ⟨by kernel_rfl,rfl⟩) (by assumption) ?_;simp only[Act.put,JH,JM,JP];refine wpAnyH_take (i:=5) (oi:=⟨some 47,_,_,_,_,_⟩) (v:=undef) rfl (by kernel_rfl) (by kernel_rfl) (by kernel_rfl) (λ_ _ _ h=>h) (LI ⟨by kernel_rfl,rfl⟩) (by assumption) ?_;simp only[Act.put,JH,JM,JP];refine wpAnyH_take (i:=6) (oi:=⟨some 48,_,_,_,_,_⟩) (v:=undef) rfl (by kernel_rfl) (by kernel_rfl) (by kernel_rfl) (λ_ _ _ h=>h) (LI ⟨by kernel_rfl,rfl⟩) (by assumption) ?_;simp only[Act.put,JH,JM,JP];refine wpAnyH_take (i:=7) (oi:=⟨some 49,_,_,_,_,_⟩) (v:=undef) rfl (by kernel_rfl) (by kernel_rfl) (by kernel_rfl) (λ_ _ _ h=>h) (LI ⟨by kernel_rfl,rfl⟩) (by assumption) ?_;simp only[Act.put,JH,JM,JP];refine wpAnyH_take (i:=8) (oi:=⟨some 50,_,_,_,_,_⟩) (v:=undef) rfl (by kernel_rfl) (by kernel_rfl) (by kernel_rfl) (λ_ _ _ h=>h) (LI ⟨by kernel_rfl,rfl⟩) (by assumption) ?_;simp only[Act.put,JH,JM,JP];refine wpAnyH_take (i:=9) (oi:=⟨some 51,_,_,_,_,_⟩) (v:=?_) rfl (by kernel_rfl) (by kernel_rfl) (by kernel_rfl) (λ_ _ _ h=>h) (LH ⟨by kernel_rfl,?_⟩) (by assumption) ?_;rotate_left;focus ((intro w I;(try dsimp only at I);go_simp);(try with_reducible rfl);done)
    simp only[Act.put,JH,JM,JP];refine wpAnyH_done (by kernel_rfl) ?_ _;obtain⟨wz,B⟩:∃ x,(wr.alloc (.cells #[.int .i64 0,.slice none 0 0] 90)).drew=x:=⟨_,rfl⟩;have KZ:Hid (Kp wr wz):=by unfold Hid;rw[<-B];exact((NQ _).alloc _).drew
    rw[B];clear B zs;obtain⟨e0,e1,e2,e3,e4⟩:=ai.out wz (K5.out.trans (y.out.trans KZ.out));go_wp2_with fail;refine(T.out wz KZ.out).mono ?_;rintro _ wy ⟨⟨b7,rfl,H⟩,k7⟩;have KY:=JE (y.out.trans (KZ.out.trans k7));have Y:=JE H;clear H k7;cases b7
    ·have aJ:¬MU X:=λh=>by have:=Y.out.2 (m.out.1 h);cases this
     have r:=JE (Z.out (.inr aJ));have f:=ax.out O.out;go_wp2_with fail;go_roundw
     case rel=>exact⟨j+1,by omega,by first|rfl|(rw[i1];rfl),by rw[f],r.out,KY.out⟩
     case measure=>simp[intOf];omega
    ·have HX:Hid (¬R):=λh=>by
      rcases (V.out.1 h).1 X a3.out with h1|h1
      ·exact O.out h1
      ·exact h1 (m.out.2 (Y.out.1 rfl))
     go_wp2_with fail;go_ret;exact⟨Oi HX.out,K5.out.trans KY.out⟩
  ·obtain rfl:j=M:=by omega
   have h1:¬(j:Int)<(j:Int):=by omega
   have aM:=az.out;rw[a6.out] at aM ⊢;have r:=JE aM;have aW:=V.out;have bj:Hid ((decide ((MT u:Nat)=OL))=true↔R):=by
    unfold Hid;rw[aW,decide_eq_true_iff];exact⟨λh=>⟨r.out,h⟩,λh=>h.2⟩
   have bs:(((MT u:Nat):Int)==(OL:Int))=decide ((MT u:Nat)=OL):=by
    by_cases e:MT u=OL
    ·rw[e,Ke rfl];exact beq_self_eq_true _
    ·rw[Kb e];exact JL.2 λh=>e (by omega)
   generalize MT u=A0 at *;clear aM aW aj P Q aw;go_wp2_with fail;go_ret;exact⟨⟨_,rfl,bj.out⟩,K5.out.trans y.out⟩
theorem zD (aa v:Value)(t:List Nod)(own:List Sd)(K:Nat)(me:Int)(w:World)(g:NL w aa t)(i:SL w v own)(l:aD t K)(x:own.length<=1000)(p:∀ k,k<own.length->-9223372036854775808<=(aG own k).node/\(aG own k).node<=9223372036854775807)(f:Tab w):
  Calls prog 16 #[aa,.int .i64 me,v] w λe w'=>aK e (bZ t K me own)/\Kp w w':=by
 by_cases b:bc t me
 ·obtain⟨k,rfl⟩:=Kc b.1
  by_cases o:srt own
  ·exact Ji aa v t own K k w g i l b o x p f
  ·have j:=JE (λW (q:Kp w W)=>ot aa t K (k:Int) W (g.kp q) l)
   rw[Ke b] at j;have n:=JE (yG v own w i);have d:¬mc own:=λh=>o (yF.1 h)
   have r:Hid (¬bZ t K (k:Int) own):=λh=>o (DV h)
   obtain⟨a,c,rfl,p1,u⟩:=g.shape;obtain⟨A,y,rfl,_,_⟩:=Ob i;generalize bZ t K (k:Int) own=R at *;generalize own.length=B at *;generalize t.length=N at *;clear g i l b o p f;go_enter func16,ntmps16;go_wp2_with fail;refine(j.out w (NQ _)).mono ?_;rintro _ _ ⟨rfl,rfl⟩;go_wp2_with fail;refine n.out.mono ?_;rintro _ w2 ⟨⟨z,rfl,m⟩,s⟩;have C:=JE s;cases z
   ·clear m n d j s
    go_wp2_with fail;go_ret;exact⟨Oi r.out,C.out⟩
   ·exact absurd (m.1 rfl) d
 ·have j:=JE (λW (q:Kp w W)=>ot aa t K me W (g.kp q) l)
  rw[Kb b] at j;have r:Hid (¬bZ t K me own):=λh=>b h.1
  obtain⟨a,c,rfl,p1,u⟩:=g.shape;obtain⟨A,y,rfl,_,_⟩:=Ob i;generalize bZ t K me own=R at *;generalize own.length=B at *;generalize t.length=N at *;clear g i l b p f;go_enter func16,ntmps16;go_wp2_with fail;refine(j.out w (NQ _)).mono ?_;rintro _ _ ⟨rfl,rfl⟩;go_wp2_with fail;go_ret;exact⟨Oi r.out,NQ _⟩
